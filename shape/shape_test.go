package shape_test

import (
	"math"
	"slices"
	"strconv"
	"testing"

	"sakia/api"
	"sakia/part"
	"sakia/shape"
)

const (
	top = math.MaxInt
	low = math.MinInt
)

func made(t *testing.T, sizes ...int) *shape.Shape {
	t.Helper()
	s, code := shape.New(sizes...)
	if code != api.OK || s == nil {
		t.Fatal(sizes, code)
	}
	return s
}

func ones(n int) []int {
	l := make([]int, n)
	for i := range l {
		l[i] = 1
	}
	return l
}

// TestNew covers P8.1.
func TestNew(t *testing.T) {
	for _, c := range []struct {
		sizes []int
		code  api.Code
	}{
		{nil, api.ErrShape},
		{ones(1), api.ErrShape},
		{ones(2), api.OK},
		{ones(16), api.OK},
		{ones(17), api.ErrShape},
		{[]int{2, 0}, api.ErrShape},
		{[]int{0, 2}, api.ErrShape},
		{[]int{-1, 2, 2}, api.ErrShape},
		{[]int{low, 2}, api.ErrShape},
		{[]int{2, api.MaxSize + 1}, api.ErrShape},
		{[]int{top, top}, api.ErrShape},
		{[]int{api.MaxSize, api.MaxSize, 0}, api.ErrShape},
		{[]int{api.MaxSize, 1}, api.ErrLong},
		{[]int{api.MaxSize - 1, 1}, api.OK},
		{[]int{1, api.MaxSize / 2}, api.OK},
		{[]int{1, api.MaxSize/2 + 1}, api.ErrLong},
		{[]int{1, api.MaxSize}, api.ErrLong},
		{[]int{api.MaxSize, api.MaxSize}, api.ErrLong},
		{slices.Repeat([]int{api.MaxSize}, 16), api.ErrLong},
		{slices.Repeat([]int{api.MaxSize}, 17), api.ErrShape},
		{[]int{1023, 1024}, api.OK},
		{[]int{1023, 1024, 1}, api.ErrLong},
	} {
		s, code := shape.New(c.sizes...)
		if code != c.code || (s != nil) != (code == api.OK) {
			t.Error(c.sizes, code)
		}
	}
}

// TestSizes covers P8.2.
func TestSizes(t *testing.T) {
	sizes := []int{2, 3, 1}
	s := made(t, sizes...)
	sizes[0] = 9
	if got := s.Sizes(); !slices.Equal(got, []int{2, 3, 1}) {
		t.Error(got)
	}
	s.Sizes()[0] = 9
	if got := s.Sizes(); !slices.Equal(got, []int{2, 3, 1}) {
		t.Error(got)
	}
	if s.Links() != 2 || s.Count() != 13 {
		t.Error(s.Links(), s.Count())
	}
	for k, want := range [][2]part.Range{{{Lo: 0, Hi: 6}, {Lo: 6, Hi: 9}}, {{Lo: 9, Hi: 12}, {Lo: 12, Hi: 13}}} {
		if w, b := s.Weights(k), s.Biases(k); w != want[0] || b != want[1] {
			t.Error(k, w, b)
		}
	}
	for _, k := range []int{low, -1, 2, 3, top} {
		if w, b := s.Weights(k), s.Biases(k); w != (part.Range{}) || b != (part.Range{}) {
			t.Error(k, w, b)
		}
	}
}

// TestPlace covers P8.3 to P8.5.
func TestPlace(t *testing.T) {
	for _, sizes := range [][]int{{1, 1}, {2, 3, 1}, {3, 12, 11, 2}, ones(16), {40, 5}} {
		s := made(t, sizes...)
		i := 0
		for k := range len(sizes) - 1 {
			for row := range sizes[k+1] {
				for col := range sizes[k] {
					checkPlace(t, s, i, k, row, col, "w"+strconv.Itoa(k)+"."+strconv.Itoa(row)+"."+strconv.Itoa(col))
					i++
				}
			}
			for row := range sizes[k+1] {
				checkPlace(t, s, i, k, row, -1, "b"+strconv.Itoa(k)+"."+strconv.Itoa(row))
				i++
			}
		}
		if i != s.Count() {
			t.Error(sizes, i)
		}
		for _, i := range []int{low, -1, i, i + 1, top} {
			if k, row, col, ok := s.Place(i); k != 0 || row != 0 || col != 0 || ok || s.Name(i) != "" {
				t.Error(sizes, i)
			}
		}
	}
}

func checkPlace(t *testing.T, s *shape.Shape, i, k, row, col int, name string) {
	t.Helper()
	if a, b, c, ok := s.Place(i); a != k || b != row || c != col || !ok {
		t.Fatal(s.Sizes(), i, a, b, c, ok)
	}
	if got := s.Name(i); got != name {
		t.Fatal(s.Sizes(), i, got, name)
	}
	if got, ok := s.Index(name); got != i || !ok {
		t.Fatal(s.Sizes(), i, got, ok)
	}
	count := 0
	for n := range s.Links() {
		for _, r := range []part.Range{s.Weights(n), s.Biases(n)} {
			if i >= r.Lo && i < r.Hi {
				count++
			}
		}
	}
	if count != 1 {
		t.Fatal(s.Sizes(), i, count)
	}
}

// TestIndexRefuses covers the failures of P8.4.
func TestIndexRefuses(t *testing.T) {
	s := made(t, 2, 3, 11)
	for _, name := range []string{
		"", "w", "b", "w0", "b0", "w0.0", "b0.0.0", "w0.0.0.0", "b0.0.0.0", "w0.0.2", "w0.3.0", "w2.0.0", "b2.0", "b0.3", "b1.11", "w1.11.0", "w1.0.3",
		"w-1.0.0", "w0.-1.0", "w0.0.-1", "b-1.0", "b0.-1", "w+0.0.0", "b0.+1", "w00.0.0", "w0.00.0", "w0.0.00", "w0.01.0", "b00.1", "b0.01", "b1.010",
		"w0..0", "w.0.0", "w0.0.", "b0.", "b.0", "b.", "w..", "W0.0.0", "B0.0", "x0.0", "0.0", " b0.0", "b0.0 ", "b 0.0", "b0. 0", "b0,0", "b0.0x", "b0.x",
		"wb0.0", "w0.0.0\n", "b0.1\x00", "b0.\xff", "b0.١", "b0.4294967296", "b0.18446744073709551616", "b18446744073709551616.0", "b0.0.", ".b0.0", "b0.0.0.", "é0.0",
		"b0.99999999999999999999999999999999999999999", "w0.0.0w0.0.0",
	} {
		if i, ok := s.Index(name); i != 0 || ok {
			t.Error(name, i, ok)
		}
	}
	if i, ok := s.Index("b1.10"); i != s.Count()-1 || !ok {
		t.Error(i, ok)
	}
}

// TestGreatest: names of the greatest numbers.
func TestGreatest(t *testing.T) {
	s := made(t, api.MaxSize-1, 1)
	checkPlace(t, s, api.MaxSize-2, 0, 0, api.MaxSize-2, "w0.0.1048574")
	checkPlace(t, s, api.MaxSize-1, 0, 0, -1, "b0.0")
	if i, ok := s.Index("w0.0.1048575"); i != 0 || ok {
		t.Error(i, ok)
	}
}

// TestNil: on a nil Shape, all methods return zero values.
func TestNil(t *testing.T) {
	var s *shape.Shape
	if len(s.Sizes()) != 0 || s.Links() != 0 || s.Count() != 0 || s.Weights(0) != (part.Range{}) || s.Biases(0) != (part.Range{}) || s.Name(0) != "" {
		t.Error("numbers")
	}
	if k, row, col, ok := s.Place(0); k != 0 || row != 0 || col != 0 || ok {
		t.Error(k, row, col, ok)
	}
	for _, name := range []string{"", "b0.0", "w0.0.0"} {
		if i, ok := s.Index(name); i != 0 || ok {
			t.Error(name, i, ok)
		}
	}
}
