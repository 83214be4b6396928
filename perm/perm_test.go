package perm_test

import (
	"math"
	"slices"
	"testing"

	"sakia/api"
	"sakia/draw"
	"sakia/perm"
)

const (
	top = math.MaxInt
	low = math.MinInt
)

// each calls f for all lists of n numbers below n.
func each(n int, f func([]int)) {
	l := make([]int, n)
	var next func(i int)
	next = func(i int) {
		if i == n {
			f(slices.Clone(l))
			return
		}
		for x := range n {
			l[i] = x
			next(i + 1)
		}
	}
	next(0)
}

// isOne reports whether a list is a permutation, by its definition.
func isOne(p []int) bool {
	for x := range len(p) {
		count := 0
		for _, y := range p {
			if y == x {
				count++
			}
		}
		if count != 1 {
			return false
		}
	}
	return true
}

// shuffled is the definition of a shuffle.
func shuffled(n int, draws []uint64) []int {
	var l []int
	for i := range n {
		l = append(l, i)
	}
	for i := n - 1; i >= 1; i-- {
		j := int(draws[n-1-i] % uint64(i+1))
		x := l[i]
		l[i] = l[j]
		l[j] = x
	}
	return l
}

// TestShuffle covers the Shuffle of P6.1.
func TestShuffle(t *testing.T) {
	if p, ok := perm.Shuffle(3, draw.New(0, 0)); !slices.Equal(p, []int{1, 2, 0}) || !ok {
		t.Error(p, ok)
	}
	draws := []uint64{math.MaxUint64, 1 << 63, 17, 5, 4, 1000, 3, 12345678901234567890, 2}
	for n := range len(draws) + 2 {
		s := draw.New(draws...)
		p, ok := perm.Shuffle(n, s)
		if !ok || !slices.Equal(p, shuffled(n, draws)) || s.Used() != max(n-1, 0) {
			t.Error(n, p, ok, s.Used())
		}
	}
	s := draw.New(9, 8, 7, 6, 5)
	s.Next(10)
	p, ok := perm.Shuffle(4, s)
	if !ok || !slices.Equal(p, shuffled(4, []uint64{8, 7, 6})) || s.Left() != 1 {
		t.Error(p, ok)
	}
}

// TestShuffleRefuses covers the failures of P6.1.
func TestShuffleRefuses(t *testing.T) {
	s := draw.New(1, 2, 3)
	for _, n := range []int{5, 6, -1, low, api.MaxSize, api.MaxSize + 1, top} {
		if p, ok := perm.Shuffle(n, s); len(p) != 0 || ok || s.Used() != 0 {
			t.Error(n, p, ok)
		}
	}
	for _, n := range []int{-1, 0, 1, 2, 100} {
		if p, ok := perm.Shuffle(n, nil); len(p) != 0 || ok {
			t.Error(n, p, ok)
		}
	}
	for n := range 2 {
		if p, ok := perm.Shuffle(n, draw.New()); len(p) != n || !ok {
			t.Error(n, p, ok)
		}
	}
}

// TestShuffleGreatest: as many numbers as are possible.
func TestShuffleGreatest(t *testing.T) {
	draws := make([]uint64, api.MaxSize)
	for i := range draws {
		draws[i] = uint64(i) * 0x9e3779b97f4a7c15
	}
	s := draw.New(draws...)
	if p, ok := perm.Shuffle(api.MaxSize, s); !ok || !slices.Equal(p, shuffled(api.MaxSize, draws)) || s.Left() != 1 {
		t.Error(ok, s.Left())
	}
	s = draw.New(draws...)
	if p, ok := perm.Shuffle(api.MaxSize+1, s); ok || len(p) != 0 || s.Used() != 0 {
		t.Error(ok, s.Used())
	}
}

// TestNeed covers the Need of P6.1.
func TestNeed(t *testing.T) {
	for _, c := range [][2]int{{low, 0}, {-1, 0}, {0, 0}, {1, 0}, {2, 1}, {10, 9}, {api.MaxSize, api.MaxSize - 1}} {
		if got := perm.Need(c[0]); got != c[1] {
			t.Error(c, got)
		}
	}
}

// TestDraws covers P6.2 and P6.5.
func TestDraws(t *testing.T) {
	for n := range 6 {
		each(n, func(p []int) {
			before := slices.Clone(p)
			draws, ok := perm.Draws(p...)
			if ok != isOne(p) || !ok && len(draws) != 0 || !slices.Equal(p, before) {
				t.Fatal(p, draws, ok)
			}
			if !ok {
				return
			}
			if len(draws) != perm.Need(n) {
				t.Fatal(p, draws)
			}
			for k, d := range draws {
				if d >= uint64(n-k) {
					t.Fatal(p, draws)
				}
			}
			if again, ok := perm.Shuffle(n, draw.New(draws...)); !ok || !slices.Equal(again, p) {
				t.Fatal(p, draws, again)
			}
		})
	}
	if draws, ok := perm.Draws(1, 2, 0); !ok || !slices.Equal(draws, []uint64{0, 0}) {
		t.Error(draws, ok)
	}
	for _, p := range [][]int{{1}, {-1}, {0, 2}, {0, -1}, {low, 0}, {top}, {0, 0}} {
		if draws, ok := perm.Draws(p...); len(draws) != 0 || ok {
			t.Error(p, draws, ok)
		}
	}
}

// TestValid covers the Valid and the Inverse of P6.3, and P6.5.
func TestValid(t *testing.T) {
	for n := range 6 {
		each(n, func(p []int) {
			valid := perm.Valid(p...)
			q, ok := perm.Inverse(p...)
			if valid != isOne(p) || ok != valid || !ok && len(q) != 0 {
				t.Fatal(p, valid, q, ok)
			}
			if !ok {
				return
			}
			for i, x := range p {
				if q[x] != i {
					t.Fatal(p, q)
				}
			}
			one, ok := perm.Compose(p, q)
			other, also := perm.Compose(q, p)
			if !ok || !also || !slices.Equal(one, other) || !slices.IsSorted(one) || len(one) != n {
				t.Fatal(p, q, one, other)
			}
		})
	}
	for _, p := range [][]int{{1}, {-1}, {1, 2}, {0, 2}, {0, 1, 3}, {0, 1, 1}, {low}, {top, 0}} {
		if q, ok := perm.Inverse(p...); perm.Valid(p...) || ok || len(q) != 0 {
			t.Error(p)
		}
	}
}

// TestCompose covers the Compose of P6.3.
func TestCompose(t *testing.T) {
	p, q := []int{2, 0, 1, 3}, []int{3, 1, 0, 2}
	l, ok := perm.Compose(p, q)
	if !ok || !slices.Equal(l, []int{3, 0, 2, 1}) {
		t.Error(l, ok)
	}
	l[0] = 77
	if !slices.Equal(p, []int{2, 0, 1, 3}) || !slices.Equal(q, []int{3, 1, 0, 2}) {
		t.Error(p, q)
	}
	if l, ok := perm.Compose(nil, []int{}); len(l) != 0 || !ok {
		t.Error(l, ok)
	}
	for i, c := range [][2][]int{{{0}, {0, 1}}, {{0, 1}, {0}}, {{0, 0}, {0, 1}}, {{0, 1}, {1, 1}}, {nil, {0}}, {{0}, nil}, {{1}, {0}}, {{0}, {1}}, {{0, 1}, {0, 2}}, {{-1, 0}, {0, 1}}, {{0, 1}, {-1, 0}}} {
		if l, ok := perm.Compose(c[0], c[1]); len(l) != 0 || ok {
			t.Error(i, l, ok)
		}
	}
}

// TestCycles covers P6.4.
func TestCycles(t *testing.T) {
	for i, c := range []struct {
		p    []int
		want [][]int
	}{
		{nil, nil},
		{[]int{0}, [][]int{{0}}},
		{[]int{0, 1, 2}, [][]int{{0}, {1}, {2}}},
		{[]int{1, 2, 0}, [][]int{{0, 1, 2}}},
		{[]int{2, 0, 1}, [][]int{{0, 2, 1}}},
		{[]int{3, 1, 5, 0, 2, 4, 6}, [][]int{{0, 3}, {1}, {2, 5, 4}, {6}}},
	} {
		got, ok := perm.Cycles(c.p...)
		if !ok || !slices.EqualFunc(got, c.want, slices.Equal[[]int]) {
			t.Error(i, got, ok)
		}
	}
	for n := range 6 {
		each(n, func(p []int) {
			cycles, ok := perm.Cycles(p...)
			if ok != isOne(p) || !ok && len(cycles) != 0 {
				t.Fatal(p, cycles, ok)
			}
			if ok {
				checkCycles(t, p, cycles)
			}
		})
	}
}

func checkCycles(t *testing.T, p []int, cycles [][]int) {
	t.Helper()
	count, last := 0, -1
	for _, c := range cycles {
		if len(c) == 0 || c[0] <= last || slices.Min(c) != c[0] {
			t.Fatal(p, cycles)
		}
		last = c[0]
		for i, x := range c {
			if p[x] != c[(i+1)%len(c)] {
				t.Fatal(p, cycles)
			}
		}
		count += len(c)
	}
	if count != len(p) {
		t.Fatal(p, cycles)
	}
}
