package deci_test

import (
	"math"
	"math/big"
	"strings"
	"testing"

	"sakia/deci"
)

const (
	top = math.MaxInt64
	low = math.MinInt64
)

// numbers returns numbers of all lengths and both signs.
func numbers() []int64 {
	l := []int64{0, top, low, low + 1, 10, 100, -10, 123456789, -987654321012345678, 0x5555555555555555}
	for i := range 63 {
		l = append(l, 1<<i, -1<<i, 1<<i-1, 1<<i+1)
	}
	return l
}

// wanted returns the text by its definition: a quotient with q exact digits, without zeros at the end.
func wanted(x int64, q int) string {
	v := new(big.Rat).SetFrac(big.NewInt(x), new(big.Int).Lsh(big.NewInt(1), uint(q)))
	s := v.FloatString(q)
	if strings.Contains(s, ".") {
		s = strings.TrimRight(s, "0")
	}
	return strings.TrimSuffix(s, ".")
}

// TestText covers the Text of P2.1, and P2.4.
func TestText(t *testing.T) {
	for q := range 63 {
		seen := map[string]int64{}
		for _, x := range numbers() {
			s := deci.Text(x, q)
			if want := wanted(x, q); s != want {
				t.Fatalf("Text(%d, %d) = %s, not %s", x, q, s, want)
			}
			if y, ok := seen[s]; ok && y != x {
				t.Fatalf("%d and %d have the text %s", x, y, s)
			}
			seen[s] = x
			if y, ok := deci.Parse(s, q); !ok || y != x {
				t.Fatalf("Parse(%s, %d) = %d, %t", s, q, y, ok)
			}
		}
	}
}

func TestTextExamples(t *testing.T) {
	for _, c := range []struct {
		x    int64
		q    int
		want string
	}{
		{3, 1, "1.5"},
		{-1, 2, "-0.25"},
		{0, 0, "0"},
		{0, 62, "0"},
		{4, 2, "1"},
		{-4, 2, "-1"},
		{10, 1, "5"},
		{20, 1, "10"},
		{low, 0, "-9223372036854775808"},
		{low, 62, "-2"},
		{top, 0, "9223372036854775807"},
		{1, 62, "0.00000000000000000021684043449710088680149056017398834228515625"},
		{5, -1, ""},
		{5, 63, ""},
		{5, low, ""},
		{5, top, ""},
	} {
		if got := deci.Text(c.x, c.q); got != c.want {
			t.Errorf("Text(%d, %d) = %s, not %s", c.x, c.q, got, c.want)
		}
	}
}

// TestParseRefuses covers the texts of P2.1 that no number has.
func TestParseRefuses(t *testing.T) {
	for _, c := range []struct {
		s string
		q int
	}{
		{"", 4}, {"-", 4}, {".", 4}, {"-.", 4}, {"+1", 4}, {"--1", 4}, {"1-", 4}, {"-0", 4}, {"-0.0", 4},
		{"00", 4}, {"01", 4}, {"-01", 4}, {"1.", 4}, {".5", 4}, {"-.5", 4}, {"1.50", 4}, {"1.0", 4},
		{"1.5.", 4}, {"1.5.5", 4}, {"1..5", 4}, {" 1", 4}, {"1 ", 4}, {"1 5", 4}, {"1,5", 4}, {"1e1", 4},
		{"0x1", 4}, {"١", 4}, {"1\xff", 4}, {"\x00", 4}, {"1.2", 4}, {"0.1", 62}, {"0.03125", 4}, {"0.5", 0},
		{"1\n", 4}, {"1_0", 4}, {"a", 4}, {"1a", 4}, {"1.a", 4}, {":", 4}, {"/", 4},
		{"9223372036854775808", 0}, {"-9223372036854775809", 0}, {"18446744073709551616", 0}, {"18446744073709551617", 0},
		{"92233720368547758070", 0}, {"184467440737095516170", 0}, {"2", 62}, {"-2.5", 62}, {"-3", 62}, {"4", 62}, {"8", 62},
		{"2.5", 61 + 1}, {"4.5", 61}, {"-4.5", 61}, {"4", 61}, {"-5", 61}, {"4611686018427387904", 1}, {"-4611686018427387904.5", 1},
		{strings.Repeat("9", 1000), 0}, {"0." + strings.Repeat("0", 1000) + "5", 62}, {"0." + strings.Repeat("5", 100), 62},
		{"1", -1}, {"1", 63}, {"1", low}, {"1", top}, {"", -1}, {"", 63},
	} {
		if x, ok := deci.Parse(c.s, c.q); ok || x != 0 {
			t.Errorf("Parse(%q, %d) = %d, %t", c.s, c.q, x, ok)
		}
	}
}

// TestParseIsExact: a text whose last digit is changed has either another number or none.
func TestParseIsExact(t *testing.T) {
	for _, q := range []int{0, 1, 2, 30, 61, 62} {
		for _, x := range numbers() {
			s := deci.Text(x, q)
			for d := '0'; d <= '9'; d++ {
				other := s[:len(s)-1] + string(d)
				y, ok := deci.Parse(other, q)
				if ok && deci.Text(y, q) != other || !ok && y != 0 {
					t.Fatalf("Parse(%s, %d) = %d, %t", other, q, y, ok)
				}
			}
		}
	}
}

// TestWhole covers P2.2.
func TestWhole(t *testing.T) {
	for _, x := range numbers() {
		for q := range 63 {
			want := new(big.Int).Rsh(big.NewInt(x), uint(q))
			whole, rest := deci.Whole(x, q), deci.Part(x, q)
			if whole != want.Int64() {
				t.Fatalf("Whole(%d, %d) = %d", x, q, whole)
			}
			left := new(big.Int).Sub(big.NewInt(x), want.Lsh(want, uint(q)))
			if rest != left.Uint64() {
				t.Fatalf("Part(%d, %d) = %d", x, q, rest)
			}
		}
		for _, q := range []int{low, -1, 63, 64, top} {
			if deci.Whole(x, q) != 0 || deci.Part(x, q) != 0 {
				t.Fatalf("Whole or Part of %d for q = %d", x, q)
			}
		}
	}
}

// TestNumber covers the Number of P2.3.
func TestNumber(t *testing.T) {
	for _, x := range numbers() {
		s := big.NewInt(x).String()
		if y, ok := deci.Number(s); !ok || y != x {
			t.Errorf("Number(%s) = %d, %t", s, y, ok)
		}
	}
	for _, s := range []string{"", "-", "-0", "00", "007", "+1", "1.0", "1.5", "1 ", " 1", "x", "9223372036854775808", "-9223372036854775809", "99999999999999999999"} {
		if x, ok := deci.Number(s); ok || x != 0 {
			t.Errorf("Number(%q) = %d, %t", s, x, ok)
		}
	}
}

// TestNatural covers the Natural of P2.3.
func TestNatural(t *testing.T) {
	for _, c := range []struct {
		s    string
		most int
		n    int
		ok   bool
	}{
		{"0", 0, 0, true}, {"1", 0, 0, false}, {"0", -1, 0, false}, {"-1", -1, 0, false}, {"-1", 5, 0, false}, {"-0", 5, 0, false},
		{"5", 5, 5, true}, {"6", 5, 0, false}, {"05", 5, 0, false}, {"", 5, 0, false}, {"2.5", 5, 0, false}, {"+2", 5, 0, false},
		{"9223372036854775807", top, top, true}, {"9223372036854775806", top - 1, top - 1, true}, {"9223372036854775807", top - 1, 0, false},
		{"9223372036854775808", top, 0, false}, {"0", low, 0, false}, {"-9223372036854775808", low, 0, false}, {"1048576", 1 << 20, 1 << 20, true},
	} {
		if n, ok := deci.Natural(c.s, c.most); n != c.n || ok != c.ok {
			t.Errorf("Natural(%q, %d) = %d, %t", c.s, c.most, n, ok)
		}
	}
}
