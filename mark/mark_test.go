package mark_test

import (
	"math"
	"math/big"
	"testing"

	"sakia/api"
	"sakia/mark"
	"sakia/vec"
)

const (
	top = math.MaxInt
	low = math.MinInt
)

// TestUnit covers the Unit of P16.1.
func TestUnit(t *testing.T) {
	for i, c := range []struct {
		n    int
		want complex128
	}{
		{0, 1}, {1, 1i}, {2, -1}, {3, -1i}, {4, 1}, {5, 1i}, {-1, -1i}, {-2, -1}, {-3, 1i}, {-4, 1}, {-5, -1i},
		{top, -1i}, {top - 1, -1}, {low, 1}, {low + 1, 1i}, {1 << 40, 1}, {1<<40 + 2, -1},
	} {
		if got := mark.Unit(c.n); got != c.want {
			t.Error(i, got)
		}
	}
}

// TestLow covers the Low of P16.1.
func TestLow(t *testing.T) {
	for _, c := range []struct {
		x    int64
		want int
	}{
		{0, 0}, {1, 1}, {-1, -1}, {32767, 32767}, {32768, -32768}, {-32768, -32768}, {-32769, 32767}, {65535, -1}, {65536, 0}, {-65535, 1}, {-65536, 0},
		{1<<40 + 5, 5}, {top, -1}, {low, 0}, {low + 7, 7}, {top - 1<<15, 32767},
	} {
		if got := mark.Low(c.x); got != c.want {
			t.Error(c.x, got)
		}
	}
}

// sum returns the parts of the mark of a vector by its definition.
func sum(v vec.Vector) (re, im int64) {
	for k, x := range v {
		x = (x%65536 + 65536) % 65536
		if x >= 32768 {
			x -= 65536
		}
		switch k % 4 {
		case 0:
			re += x
		case 1:
			im += x
		case 2:
			re -= x
		case 3:
			im -= x
		}
	}
	return re, im
}

// filled returns numbers of all sizes.
func filled(n int) vec.Vector {
	v := make(vec.Vector, n)
	x := uint64(n)
	for i := range v {
		x = x*6364136223846793005 + 1442695040888963407
		v[i] = int64(x) >> (i % 64)
	}
	return v
}

func check(t *testing.T, v vec.Vector) {
	t.Helper()
	re, im := sum(v)
	if got := mark.Of(v); got != complex(float64(re), float64(im)) {
		t.Error(len(v), got, re, im)
	}
}

// TestOf covers the Of of P16.2.
func TestOf(t *testing.T) {
	for i, c := range []struct {
		v    vec.Vector
		want complex128
	}{
		{nil, 0}, {vec.Vector{}, 0}, {vec.Vector{1, 2, 3, 4}, -2 - 2i}, {vec.Vector{65535}, -1}, {vec.Vector{0, 32768}, -32768i}, {vec.Vector{0, 0, 7}, -7}, {vec.Vector{0, 0, 0, 7}, -7i}, {vec.Vector{0, 0, 0, 0, 7}, 7},
	} {
		if got := mark.Of(c.v); got != c.want {
			t.Error(i, got)
		}
	}
	for n := range 100 {
		check(t, filled(n))
	}
	greatest := make(vec.Vector, api.MaxSize)
	for i := range greatest {
		greatest[i] = []int64{-32768, -32768, 32767, 32767}[i%4]
	}
	check(t, greatest)
}

// TestTurn covers the Turn and the Join of P16.2.
func TestTurn(t *testing.T) {
	for _, z := range []complex128{0, 1, 1i, 3 - 4i, -5 + 12i, complex(1<<50, -1<<50), complex(1<<50-1, 1<<49+1)} {
		a, b := real(z), imag(z)
		for k, want := range []complex128{z, complex(-b, a), -z, complex(b, -a)} {
			for _, n := range []int{k, k + 4, k - 4, k + 1<<50, k + low, k + top - 3} {
				if got := mark.Turn(z, n); got != want {
					t.Error(z, n, got)
				}
				if got := mark.Join(10-20i, n, z); got != 10-20i+want {
					t.Error(z, n, got)
				}
			}
		}
	}
}

// TestText covers the Text of P16.3, and P16.4.
func TestText(t *testing.T) {
	zero := 0.0
	for _, c := range []struct {
		z    complex128
		want string
	}{
		{0, "0+0i"}, {complex(-zero, -zero), "0+0i"}, {complex(math.Copysign(0, -1), math.Copysign(0, -1)), "0+0i"},
		{1, "1+0i"}, {-1, "-1+0i"}, {1i, "0+1i"}, {-1i, "0-1i"}, {-2 - 2i, "-2-2i"}, {12 + 345i, "12+345i"}, {-7 + 10i, "-7+10i"},
		{complex(1<<50, -1<<50), "1125899906842624-1125899906842624i"}, {complex(-1<<50, 1<<50-1), "-1125899906842624+1125899906842623i"},
	} {
		if got := mark.Text(c.z); got != c.want {
			t.Error(c.z, got)
		}
		if z, ok := mark.Parse(c.want); z != c.z || !ok {
			t.Error(c.want, z, ok)
		}
	}
	for i := range int64(50) {
		for j := range int64(50) {
			re, im := int64(1)<<i-j, j<<10-1<<i
			z := complex(float64(re), float64(im))
			s := big.NewInt(re).String() + []string{"+", "-"}[(1-big.NewInt(im).Sign())/2] + new(big.Int).Abs(big.NewInt(im)).String() + "i"
			if im == 0 {
				s = big.NewInt(re).String() + "+0i"
			}
			if got := mark.Text(z); got != s {
				t.Fatal(re, im, got, s)
			}
			if got, ok := mark.Parse(s); got != z || !ok {
				t.Fatal(s, got, ok)
			}
		}
	}
}

// TestParseRefuses covers the failures of P16.3.
func TestParseRefuses(t *testing.T) {
	for _, s := range []string{
		"", "i", "+", "-", "+i", "-i", "1", "1i", "1+i", "+1i", "-1i", "1+", "+1+1i", "1+1", "1+1j", "1+1i ", " 1+1i", "1 +1i", "1+ 1i", "1+1ii", "1-0i", "0-0i", "-0+0i", "-0-1i", "01+1i", "1+01i", "1+-1i", "1--1i", "1-+1i", "1++1i",
		"1.5+1i", "1+1.5i", "1,5+1i", "x+1i", "1+xi", "i+1", "1+1i\n", "--1+1i", "-+1i", "1+1I",
		"1125899906842625+0i", "-1125899906842625+0i", "0+1125899906842625i", "0-1125899906842625i", "9223372036854775808+0i", "0+18446744073709551617i", "-9223372036854775808+0i", "0-9223372036854775808i",
	} {
		if z, ok := mark.Parse(s); z != 0 || ok {
			t.Error(s, z, ok)
		}
	}
}

// TestJoinOfMarks covers P16.4.
func TestJoinOfMarks(t *testing.T) {
	v := filled(60)
	for n := range len(v) + 1 {
		if got := mark.Join(mark.Of(v[:n]), n, mark.Of(v[n:])); got != mark.Of(v) {
			t.Error(n, got)
		}
	}
}
