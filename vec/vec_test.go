package vec_test

import (
	"math"
	"testing"

	"sakia/fixp"
	"sakia/vec"
)

const (
	top = math.MaxInt64
	low = math.MinInt64
)

func same(a, b vec.Vector) bool {
	if len(a) != len(b) {
		return false
	}
	for i := range a {
		if a[i] != b[i] {
			return false
		}
	}
	return true
}

// TestSum covers the Sum of P3.1.
func TestSum(t *testing.T) {
	for i, c := range []struct {
		l    []vec.Vector
		want vec.Vector
		ok   bool
	}{
		{nil, nil, true},
		{[]vec.Vector{nil}, nil, true},
		{[]vec.Vector{nil, {}}, nil, true},
		{[]vec.Vector{{1, 2}}, vec.Vector{1, 2}, true},
		{[]vec.Vector{{1, 2}, {10, 20}}, vec.Vector{11, 22}, true},
		{[]vec.Vector{{top, low}, {1, -1}, {5, 5}}, vec.Vector{low + 5, low + 4}, true},
		{[]vec.Vector{{1, 2}, {1}}, nil, false},
		{[]vec.Vector{{1}, {1, 2}}, nil, false},
		{[]vec.Vector{{1}, {1}, nil}, nil, false},
		{[]vec.Vector{nil, {1}}, nil, false},
		{[]vec.Vector{{1}, {1}, {1}, {1, 2}}, nil, false},
	} {
		if got, ok := vec.Sum(c.l...); !same(got, c.want) || ok != c.ok {
			t.Error(i, got, ok)
		}
	}
}

// TestSumKeepsArguments: a sum has memory of its own, also that of one vector.
func TestSumKeepsArguments(t *testing.T) {
	a, b := vec.Vector{1, 2}, vec.Vector{10, 20}
	one, _ := vec.Sum(a)
	both, _ := vec.Sum(a, b)
	one[0], both[1] = 7, 7
	if !same(a, vec.Vector{1, 2}) || !same(b, vec.Vector{10, 20}) {
		t.Error(a, b)
	}
}

// TestAdd covers the Add of P3.1.
func TestAdd(t *testing.T) {
	v, w := vec.Vector{1, top, low}, vec.Vector{-3, 1, -1}
	if !v.Add(w) || !same(v, vec.Vector{-2, low, top}) || !same(w, vec.Vector{-3, 1, -1}) {
		t.Error(v, w)
	}
	for _, w := range []vec.Vector{nil, {}, {1}, {1, 2}, {1, 2, 3, 4}} {
		if v.Add(w) || !same(v, vec.Vector{-2, low, top}) {
			t.Error(v, w)
		}
	}
	if !(vec.Vector{}).Add(nil) || !vec.Vector(nil).Add(vec.Vector{}) || vec.Vector(nil).Add(vec.Vector{1}) {
		t.Error("empty ones")
	}
	if !v.Add(v) || !same(v, vec.Vector{-4, 0, -2}) {
		t.Error(v)
	}
	l := vec.Vector{1, 2, 4, 8}
	if !l[1:].Add(l[:3]) || !same(l, vec.Vector{1, 3, 6, 12}) {
		t.Error(l)
	}
	m := vec.Vector{1, 2, 3}
	if !m[:2].Add(vec.Vector{1, 1}) || !same(m, vec.Vector{2, 3, 3}) {
		t.Error(m)
	}
}

// TestScale covers the Scale of P3.2.
func TestScale(t *testing.T) {
	v := vec.Vector{3, -3, 0, top, low}
	for _, a := range []int64{0, 1, -1, 7, top, low} {
		for _, q := range []int{-1, 0, 1, 16, 62, 63} {
			got := vec.Scale(v, a, q)
			if len(got) != len(v) {
				t.Fatal(got)
			}
			for i, x := range v {
				if got[i] != fixp.Mul(x, a, q) {
					t.Error(a, q, got)
				}
			}
		}
	}
	if !same(v, vec.Vector{3, -3, 0, top, low}) || len(vec.Scale(nil, 3, 1)) != 0 {
		t.Error(v)
	}
}

// TestDot covers the Dot of P3.2: each product is rounded by itself.
func TestDot(t *testing.T) {
	for i, c := range []struct {
		a, b vec.Vector
		q    int
		want int64
		ok   bool
	}{
		{nil, nil, 3, 0, true},
		{nil, vec.Vector{}, 3, 0, true},
		{vec.Vector{1, 2, 3}, vec.Vector{4, 5, 6}, 0, 32, true},
		{vec.Vector{1, 1}, vec.Vector{1, 1}, 1, 0, true},
		{vec.Vector{1, 1}, vec.Vector{-1, -1}, 1, -2, true},
		{vec.Vector{top, top, top}, vec.Vector{1, 1, 1}, 0, top - 2, true},
		{vec.Vector{1, 2}, vec.Vector{3, 4}, 63, 0, true},
		{vec.Vector{1, 2}, vec.Vector{3, 4}, -1, 0, true},
		{vec.Vector{1, 2}, vec.Vector{3}, 0, 0, false},
		{vec.Vector{1}, vec.Vector{3, 4}, 0, 0, false},
		{nil, vec.Vector{3}, 0, 0, false},
		{vec.Vector{3}, nil, -1, 0, false},
	} {
		if got, ok := vec.Dot(c.a, c.b, c.q); got != c.want || ok != c.ok {
			t.Error(i, got, ok)
		}
	}
}

// TestSame covers P3.3.
func TestSame(t *testing.T) {
	for i, c := range []struct {
		a, b   vec.Vector
		differ int
	}{
		{nil, nil, -1},
		{nil, vec.Vector{}, -1},
		{vec.Vector{}, nil, -1},
		{vec.Vector{1, 2}, vec.Vector{1, 2}, -1},
		{vec.Vector{1, 2}, vec.Vector{1, 3}, 1},
		{vec.Vector{1, 2}, vec.Vector{0, 3}, 0},
		{vec.Vector{1, 2}, vec.Vector{1, 2, 0}, 2},
		{vec.Vector{1, 2}, nil, 0},
		{vec.Vector{low}, vec.Vector{top}, 0},
		{vec.Vector{1, 5, 2}, vec.Vector{1, 4}, 1},
	} {
		if got := c.a.Differ(c.b); got != c.differ {
			t.Error(i, got)
		}
		if got := c.b.Differ(c.a); got != c.differ {
			t.Error(i, got)
		}
		if got := c.a.Same(c.b); got != (c.differ == -1) {
			t.Error(i, got)
		}
		if got := c.b.Same(c.a); got != (c.differ == -1) {
			t.Error(i, got)
		}
	}
}

// TestClone covers the Clone of P3.3.
func TestClone(t *testing.T) {
	v := vec.Vector{1, 2, 3}
	w := v.Clone()
	if !same(v, w) {
		t.Error(w)
	}
	w[0], v[1] = 9, 8
	if !same(v, vec.Vector{1, 8, 3}) || !same(w, vec.Vector{9, 2, 3}) {
		t.Error(v, w)
	}
	if len(vec.Vector(nil).Clone()) != 0 || len(vec.Vector{}.Clone()) != 0 {
		t.Error("empty ones")
	}
	whole := vec.Vector{1, 2, 3}
	_ = append(whole[:1].Clone(), 7)
	if whole[1] != 2 {
		t.Error(whole)
	}
}

// power returns a power of the base of hashes.
func power(n int) uint64 {
	p := uint64(1)
	for range n {
		p *= 1099511628211
	}
	return p
}

// TestHash covers P3.4.
func TestHash(t *testing.T) {
	if got := (vec.Vector{}).Hash(); got != 1 {
		t.Error(got)
	}
	if got := vec.Vector(nil).Hash(); got != 1 {
		t.Error(got)
	}
	if got := (vec.Vector{0}).Hash(); got != 1099511628211 {
		t.Error(got)
	}
	l := vec.Vector{1, -1, 5, top, low, 0, -77, 1 << 40, 0}
	for n := range len(l) + 1 {
		want := power(n)
		for i, x := range l[:n] {
			want += uint64(x) * power(n-i)
		}
		if got := l[:n].Hash(); got != want {
			t.Error(n, got, want)
		}
	}
}

// TestConsequences covers P3.5.
func TestConsequences(t *testing.T) {
	a, b, c := vec.Vector{top, 2, -3}, vec.Vector{5, top, low}, vec.Vector{top, 77, low}
	want, _ := vec.Sum(a, b, c)
	turned, _ := vec.Sum(c, a, b)
	ab, _ := vec.Sum(a, b)
	grouped, _ := vec.Sum(c, ab)
	if !same(want, turned) || !same(want, grouped) {
		t.Error(want, turned, grouped)
	}
	hash := want.Hash()
	for i := range want {
		for _, d := range []int64{1, -1, 1 << 63 >> 1, low, 1 << 32} {
			other := want.Clone()
			other[i] += d
			if other.Hash() == hash {
				t.Error(i, d)
			}
		}
	}
}
