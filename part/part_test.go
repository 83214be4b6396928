package part_test

import (
	"math"
	"slices"
	"testing"

	"sakia/api"
	"sakia/part"
)

const (
	top = math.MaxInt
	low = math.MinInt
)

// TestSize covers the Size of P4.3.
func TestSize(t *testing.T) {
	for _, c := range []struct {
		r    part.Range
		want int
	}{
		{part.Range{}, 0},
		{part.Range{Lo: 2, Hi: 5}, 3},
		{part.Range{Lo: 5, Hi: 2}, 0},
		{part.Range{Lo: 5, Hi: 5}, 0},
		{part.Range{Lo: -3, Hi: 2}, 5},
		{part.Range{Lo: -3, Hi: -2}, 1},
		{part.Range{Lo: -1 << 40, Hi: 1 << 40}, 1 << 41},
		{part.Range{Lo: 1 << 40, Hi: -1 << 40}, 0},
	} {
		if got := c.r.Size(); got != c.want {
			t.Error(c.r, got)
		}
	}
}

// TestEven covers the Even of P4.1, and P4.4.
func TestEven(t *testing.T) {
	if got := part.Even(5, 2); !slices.Equal(got, []part.Range{{Lo: 0, Hi: 3}, {Lo: 3, Hi: 5}}) {
		t.Error(got)
	}
	if got := part.Even(1, 3); !slices.Equal(got, []part.Range{{Lo: 0, Hi: 1}, {Lo: 1, Hi: 1}, {Lo: 1, Hi: 1}}) {
		t.Error(got)
	}
	for n := range 30 {
		for k := 1; k < 40; k++ {
			checkEven(t, n, k)
		}
	}
	checkEven(t, api.MaxSize, 64)
	checkEven(t, api.MaxSize, 1000)
	checkEven(t, api.MaxSize-1, api.MaxSize)
	checkEven(t, api.MaxSize, api.MaxSize)
	for _, c := range [][2]int{{-1, 1}, {low, 3}, {3, 0}, {3, -1}, {3, low}, {0, 0}, {-1, 0}} {
		if got := part.Even(c[0], c[1]); len(got) != 0 {
			t.Error(c, got)
		}
	}
}

func checkEven(t *testing.T, n, k int) {
	t.Helper()
	l := part.Even(n, k)
	if len(l) != k || !part.Covers(n, l...) {
		t.Fatal(n, k, l)
	}
	first, last := l[0].Hi-l[0].Lo, l[k-1].Hi-l[k-1].Lo
	if first-last > 1 {
		t.Fatal(n, k, l)
	}
	lo := 0
	for i, r := range l {
		if r.Lo != lo || r.Hi < r.Lo || i > 0 && r.Size() > l[i-1].Size() {
			t.Fatal(n, k, l)
		}
		lo = r.Hi
	}
	if lo != n {
		t.Fatal(n, k, l)
	}
}

// TestBlocks covers the Blocks of P4.1, P4.2 and P4.4.
func TestBlocks(t *testing.T) {
	if got := part.Blocks(5, 2); !slices.Equal(got, []part.Range{{Lo: 0, Hi: 2}, {Lo: 2, Hi: 4}, {Lo: 4, Hi: 5}}) {
		t.Error(got)
	}
	for n := 1; n < 40; n++ {
		for size := 1; size < 50; size++ {
			checkBlocks(t, n, size)
		}
		checkBlocks(t, n, top)
		checkBlocks(t, n, top-1)
		checkBlocks(t, n, top/2+1)
	}
	checkBlocks(t, api.MaxSize, 1)
	checkBlocks(t, api.MaxSize, 1000)
	checkBlocks(t, api.MaxSize, top)
	for _, c := range [][2]int{{0, 1}, {-1, 1}, {low, 1}, {1, 0}, {1, -1}, {1, low}, {0, 0}, {low, low}, {-4, -2}, {0, top}} {
		if l, n := part.Blocks(c[0], c[1]), part.Count(c[0], c[1]); len(l) != 0 || n != 0 {
			t.Error(c, l, n)
		}
	}
}

func checkBlocks(t *testing.T, n, size int) {
	t.Helper()
	l := part.Blocks(n, size)
	if len(l) != part.Count(n, size) || !part.Covers(n, l...) {
		t.Fatal(n, size, l)
	}
	lo := 0
	for i, r := range l {
		if r.Lo != lo || i < len(l)-1 && r.Hi-r.Lo != size || r.Hi-r.Lo < 1 || r.Hi-r.Lo > size {
			t.Fatal(n, size, l)
		}
		lo = r.Hi
	}
	if lo != n {
		t.Fatal(n, size, l)
	}
}

// TestOf covers the Of of P4.3.
func TestOf(t *testing.T) {
	l := []part.Range{{Lo: 2, Hi: 2}, {Lo: 5, Hi: 3}, {Lo: 2, Hi: 4}, {Lo: -2, Hi: 3}, {Lo: 10, Hi: top}, {Lo: low, Hi: -9}}
	for _, c := range []struct{ i, want int }{
		{2, 2}, {3, 2}, {4, -1}, {1, 3}, {-2, 3}, {-3, -1}, {10, 4}, {top - 1, 4}, {top, -1}, {low, 5}, {-10, 5}, {-9, -1}, {9, -1},
	} {
		if got := part.Of(c.i, l...); got != c.want {
			t.Error(c.i, got)
		}
	}
	if part.Of(0) != -1 || part.Of(0, part.Range{}) != -1 || part.Of(0, part.Range{Lo: 0, Hi: 1}) != 0 {
		t.Error("of few ranges")
	}
}

// TestCovers covers the Covers of P4.3.
func TestCovers(t *testing.T) {
	for i, c := range []struct {
		n    int
		l    []part.Range
		want bool
	}{
		{0, nil, true},
		{1, nil, false},
		{-1, nil, false},
		{0, []part.Range{{}}, true},
		{0, []part.Range{{}, {}}, true},
		{3, []part.Range{{Lo: 0, Hi: 3}}, true},
		{4, []part.Range{{Lo: 0, Hi: 3}}, false},
		{2, []part.Range{{Lo: 0, Hi: 3}}, false},
		{3, []part.Range{{Lo: 1, Hi: 3}}, false},
		{3, []part.Range{{Lo: -1, Hi: 3}}, false},
		{3, []part.Range{{Lo: 0, Hi: 1}, {Lo: 1, Hi: 1}, {Lo: 1, Hi: 3}}, true},
		{3, []part.Range{{Lo: 0, Hi: 1}, {Lo: 2, Hi: 3}}, false},
		{3, []part.Range{{Lo: 0, Hi: 2}, {Lo: 1, Hi: 3}}, false},
		{3, []part.Range{{Lo: 0, Hi: 4}, {Lo: 4, Hi: 3}}, false},
		{3, []part.Range{{Lo: 0, Hi: 4}, {Lo: 4, Hi: 2}, {Lo: 2, Hi: 3}}, false},
		{-1, []part.Range{{Lo: 0, Hi: -1}}, false},
		{0, []part.Range{{Lo: 0, Hi: -1}, {Lo: -1, Hi: 0}}, false},
		{3, []part.Range{{Lo: 1, Hi: 3}, {Lo: 0, Hi: 1}}, false},
		{top, []part.Range{{Lo: 0, Hi: top}}, true},
		{low, []part.Range{{Lo: 0, Hi: low}}, false},
	} {
		if got := part.Covers(c.n, c.l...); got != c.want {
			t.Error(i, got)
		}
	}
}
