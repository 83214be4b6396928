package fixp_test

import (
	"math"
	"math/big"
	"testing"

	"sakia/fixp"
)

const (
	top = math.MaxInt64
	low = math.MinInt64
)

// numbers returns numbers at the edges of all halves, and some in between.
func numbers() []int64 {
	l := []int64{0, 1, 2, 3, 5, 7, 1000003, 1<<31 - 1, 1 << 31, 1<<32 - 1, 1 << 32, 1<<32 + 1, 1<<33 - 1, 1 << 62, 0x123456789abcdef, 0x7edcba9876543210, 0x0fffffff00000001, 0x00000001ffffffff, top - 1, top}
	for _, a := range l {
		l = append(l, -a)
	}
	return append(l, low, low+1)
}

// wrap returns the int64 that differs from an integer by a multiple of 2^64.
func wrap(x *big.Int) int64 {
	return int64(new(big.Int).And(x, new(big.Int).SetUint64(math.MaxUint64)).Uint64())
}

func shifted(x *big.Int, q int) int64 {
	return wrap(new(big.Int).Rsh(x, uint(q)))
}

// TestProduct covers the Product of P1.1.
func TestProduct(t *testing.T) {
	for _, a := range numbers() {
		for _, b := range numbers() {
			want := new(big.Int).Mul(big.NewInt(a), big.NewInt(b))
			hi, lo := fixp.Product(a, b)
			if hi != shifted(want, 64) || lo != uint64(wrap(want)) {
				t.Fatalf("Product(%d, %d) = %d, %d", a, b, hi, lo)
			}
		}
	}
}

// TestShift covers the Shift of P1.1.
func TestShift(t *testing.T) {
	for _, hi := range numbers() {
		for _, l := range numbers() {
			lo := uint64(l)
			x := new(big.Int).Lsh(big.NewInt(hi), 64)
			x.Add(x, new(big.Int).SetUint64(lo))
			for q := range 64 {
				if got := fixp.Shift(hi, lo, q); got != shifted(x, q) {
					t.Fatalf("Shift(%d, %d, %d) = %d", hi, lo, q, got)
				}
			}
		}
	}
	for _, q := range []int{low, -64, -1, 64, 65, 128, top} {
		if got := fixp.Shift(5, 9, q); got != 0 {
			t.Errorf("Shift with q = %d is %d", q, got)
		}
	}
}

// TestMul covers P1.2.
func TestMul(t *testing.T) {
	for _, a := range numbers() {
		for _, b := range numbers() {
			x := new(big.Int).Mul(big.NewInt(a), big.NewInt(b))
			for q := range 63 {
				if got := fixp.Mul(a, b, q); got != shifted(x, q) {
					t.Fatalf("Mul(%d, %d, %d) = %d", a, b, q, got)
				}
			}
		}
	}
	for _, q := range []int{low, -1, 63, 64, top} {
		if got := fixp.Mul(low, low, q); got != 0 {
			t.Errorf("Mul with q = %d is %d", q, got)
		}
	}
	if got := fixp.Mul(3, -1, 1); got != -2 {
		t.Errorf("Mul(3, -1, 1) = %d", got)
	}
}

// TestSum covers the Sum and the Sub of P1.3.
func TestSum(t *testing.T) {
	for _, c := range []struct {
		l    []int64
		want int64
	}{
		{nil, 0},
		{[]int64{}, 0},
		{[]int64{-7}, -7},
		{[]int64{1, 2, 3, -10}, -4},
		{[]int64{top, 1}, low},
		{[]int64{low, -1}, top},
		{[]int64{low, low}, 0},
		{[]int64{top, top, 2}, 0},
	} {
		if got := fixp.Sum(c.l...); got != c.want {
			t.Errorf("Sum(%v) = %d", c.l, got)
		}
	}
	for _, a := range numbers() {
		for _, b := range numbers() {
			want := wrap(new(big.Int).Sub(big.NewInt(a), big.NewInt(b)))
			if got := fixp.Sub(a, b); got != want {
				t.Fatalf("Sub(%d, %d) = %d", a, b, got)
			}
		}
	}
}

// TestSumKeepsArguments: arguments are not modified.
func TestSumKeepsArguments(t *testing.T) {
	l := []int64{1, 2, 3}
	fixp.Sum(l...)
	if l[0] != 1 || l[1] != 2 || l[2] != 3 {
		t.Error(l)
	}
}

// TestOne covers the One of P1.3.
func TestOne(t *testing.T) {
	want := int64(1)
	for q := range 63 {
		if got := fixp.One(q); got != want {
			t.Errorf("One(%d) = %d", q, got)
		}
		want *= 2
	}
	for _, q := range []int{low, -1, 63, 64, 65, top} {
		if got := fixp.One(q); got != 0 {
			t.Errorf("One(%d) = %d", q, got)
		}
	}
}

// TestRelu covers P1.4.
func TestRelu(t *testing.T) {
	for _, a := range numbers() {
		want := int64(0)
		if a > 0 {
			want = a
		}
		if got := fixp.Relu(a); got != want {
			t.Errorf("Relu(%d) = %d", a, got)
		}
		for _, g := range numbers() {
			want := int64(0)
			if a > 0 {
				want = g
			}
			if got := fixp.Gate(a, g); got != want {
				t.Errorf("Gate(%d, %d) = %d", a, g, got)
			}
		}
	}
}

// TestConsequences covers P1.5.
func TestConsequences(t *testing.T) {
	l := numbers()
	var back, grouped int64
	for i := range l {
		back = fixp.Sum(back, l[len(l)-1-i])
	}
	for i := 0; i < len(l); i += 3 {
		grouped = fixp.Sum(fixp.Sum(l[i:min(i+3, len(l))]...), grouped)
	}
	if want := fixp.Sum(l...); back != want || grouped != want {
		t.Error(want, back, grouped)
	}
	for _, a := range l {
		for q := range 63 {
			if fixp.Mul(a, fixp.One(q), q) != a || fixp.Mul(fixp.One(q), a, q) != a {
				t.Fatalf("%d times One(%d)", a, q)
			}
			for _, b := range l {
				if fixp.Mul(a, b, q) != fixp.Mul(b, a, q) {
					t.Fatalf("the order of %d and %d for q = %d", a, b, q)
				}
			}
		}
	}
}
