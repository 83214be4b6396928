package draw_test

import (
	"math"
	"slices"
	"testing"

	"sakia/draw"
)

const (
	top = math.MaxInt
	low = math.MinInt
)

// expect checks how many draws are used and left.
func expect(t *testing.T, s *draw.Stream, used, left int) {
	t.Helper()
	if s.Used() != used || s.Left() != left {
		t.Errorf("%d used, %d left; not %d, %d", s.Used(), s.Left(), used, left)
	}
}

// TestNext covers P5.1.
func TestNext(t *testing.T) {
	s := draw.New(7, 9, math.MaxUint64, 1<<63, 0, 5)
	expect(t, s, 0, 6)
	for _, n := range []int{0, -1, low} {
		if d, ok := s.Next(n); d != 0 || ok {
			t.Error(n, d, ok)
		}
		expect(t, s, 0, 6)
	}
	for i, c := range []struct{ n, want int }{{5, 2}, {4, 1}, {top, 1}, {top, 1}, {1, 0}, {6, 5}} {
		if d, ok := s.Next(c.n); d != c.want || !ok {
			t.Error(i, d, ok)
		}
		expect(t, s, i+1, 5-i)
	}
	for _, n := range []int{1, 5, top, 0, -1} {
		if d, ok := s.Next(n); d != 0 || ok {
			t.Error(n, d, ok)
		}
		expect(t, s, 6, 0)
	}
	if d, ok := draw.New().Next(3); d != 0 || ok {
		t.Error(d, ok)
	}
}

// TestNewKeepsNothing: an argument may be changed after a call.
func TestNewKeepsNothing(t *testing.T) {
	l := []uint64{1, 2}
	s := draw.New(l...)
	l[0] = 9
	if d, _ := s.Next(10); d != 1 {
		t.Error(d)
	}
	if l[0] != 9 || l[1] != 2 {
		t.Error(l)
	}
}

// TestMany covers P5.2.
func TestMany(t *testing.T) {
	s := draw.New(7, 9, 11, 13)
	for _, bounds := range [][]int{{0}, {5, 0}, {5, 4, -1}, {low, 5}, {5, 5, 5, 5, 5}, {1, 1, 1, 1, 0}} {
		if l, ok := s.Many(bounds...); len(l) != 0 || ok {
			t.Error(bounds, l, ok)
		}
		expect(t, s, 0, 4)
	}
	if l, ok := s.Many(); len(l) != 0 || !ok {
		t.Error(l, ok)
	}
	expect(t, s, 0, 4)
	if l, ok := s.Many(5, 4, top); !slices.Equal(l, []int{2, 1, 11}) || !ok {
		t.Error(l, ok)
	}
	expect(t, s, 3, 1)
	if l, ok := s.Many(5, 5); len(l) != 0 || ok {
		t.Error(l, ok)
	}
	expect(t, s, 3, 1)
	if l, ok := s.Many(10); !slices.Equal(l, []int{3}) || !ok {
		t.Error(l, ok)
	}
	if l, ok := s.Many(); len(l) != 0 || !ok {
		t.Error(l, ok)
	}
	if l, ok := s.Many(1); len(l) != 0 || ok {
		t.Error(l, ok)
	}
	expect(t, s, 4, 0)
}

// TestClone covers P5.3.
func TestClone(t *testing.T) {
	s := draw.New(1, 2, 3, 4)
	s.Next(10)
	c := s.Clone()
	expect(t, c, 1, 3)
	c.Next(10)
	c.Next(10)
	expect(t, c, 3, 1)
	expect(t, s, 1, 3)
	if d, ok := s.Next(10); d != 2 || !ok {
		t.Error(d, ok)
	}
	expect(t, s, 2, 2)
	if d, ok := c.Next(10); d != 4 || !ok {
		t.Error(d, ok)
	}
	again := c.Clone()
	expect(t, again, 4, 0)
	if d, ok := again.Next(1); d != 0 || ok {
		t.Error(d, ok)
	}
}

// TestAll covers P5.4.
func TestAll(t *testing.T) {
	s := draw.New(7, 9, 11)
	s.Next(5)
	var places []int
	var draws []uint64
	for i, d := range s.All {
		places, draws = append(places, i), append(draws, d)
	}
	if !slices.Equal(places, []int{1, 2}) || !slices.Equal(draws, []uint64{9, 11}) {
		t.Error(places, draws)
	}
	expect(t, s, 1, 2)
	count := 0
	for range s.All {
		count++
		break
	}
	if count != 1 {
		t.Error(count)
	}
	s.Many(1, 1)
	for i, d := range s.All {
		t.Error(i, d)
	}
	for i, d := range draw.New().All {
		t.Error(i, d)
	}
	draw.New(1, 2).All(nil)
}

// TestNil: on a nil Stream, all methods return zero values.
func TestNil(t *testing.T) {
	var s *draw.Stream
	expect(t, s, 0, 0)
	if d, ok := s.Next(3); d != 0 || ok {
		t.Error(d, ok)
	}
	if l, ok := s.Many(); len(l) != 0 || ok {
		t.Error(l, ok)
	}
	if l, ok := s.Many(3); len(l) != 0 || ok {
		t.Error(l, ok)
	}
	if s.Clone() != nil {
		t.Error("clone")
	}
	for i, d := range s.All {
		t.Error(i, d)
	}
}
