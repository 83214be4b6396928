package data_test

import (
	"math"
	"slices"
	"testing"

	"sakia/api"
	"sakia/data"
)

const (
	top = math.MaxInt64
	low = math.MinInt64
)

func example(x, y []int64) api.Example {
	return api.Example{X: x, Y: y}
}

func equal(a, b api.Example) bool {
	return slices.Equal(a.X, b.X) && slices.Equal(a.Y, b.Y)
}

func empty(e api.Example) bool {
	return len(e.X) == 0 && len(e.Y) == 0
}

// TestCheck covers the Check of P10.1.
func TestCheck(t *testing.T) {
	two := example([]int64{1, 2}, []int64{3})
	for i, c := range []struct {
		l       []api.Example
		in, out int
		at      int
		ok      bool
	}{
		{nil, 2, 1, 0, true},
		{nil, -1, low, 0, true},
		{[]api.Example{two, two}, 2, 1, 0, true},
		{[]api.Example{two, two}, 1, 1, 0, false},
		{[]api.Example{two, two}, 2, 2, 0, false},
		{[]api.Example{two, two}, -2, -1, 0, false},
		{[]api.Example{two, {}, two, {}}, 2, 1, 1, false},
		{[]api.Example{two, two, example([]int64{1, 2}, nil)}, 2, 1, 2, false},
		{[]api.Example{two, two, example(nil, []int64{1})}, 2, 1, 2, false},
		{[]api.Example{{}, {}}, 0, 0, 0, true},
		{[]api.Example{{}, two}, 0, 0, 1, false},
		{[]api.Example{two}, top, low, 0, false},
	} {
		if at, ok := data.Check(c.l, c.in, c.out); at != c.at || ok != c.ok {
			t.Error(i, at, ok)
		}
	}
}

// TestSame covers the Same of P10.1.
func TestSame(t *testing.T) {
	for i, c := range []struct {
		a, b api.Example
		want bool
	}{
		{api.Example{}, api.Example{}, true},
		{example(nil, []int64{}), example([]int64{}, nil), true},
		{example([]int64{1, 2}, []int64{3}), example([]int64{1, 2}, []int64{3}), true},
		{example([]int64{1, 2}, []int64{3}), example([]int64{1}, []int64{2, 3}), false},
		{example([]int64{1, 2}, []int64{3}), example([]int64{1, 2}, []int64{4}), false},
		{example([]int64{1, 2}, []int64{3}), example([]int64{1, 3}, []int64{3}), false},
		{example([]int64{1, 2}, []int64{3}), example([]int64{1, 2, 0}, []int64{3}), false},
		{example([]int64{1, 2}, []int64{3}), example([]int64{1, 2}, nil), false},
		{example([]int64{0}, nil), api.Example{}, false},
	} {
		if data.Same(c.a, c.b) != c.want || data.Same(c.b, c.a) != c.want {
			t.Error(i)
		}
	}
}

// TestClone covers the Clone of P10.1.
func TestClone(t *testing.T) {
	l := []api.Example{example([]int64{1, 2}, []int64{3}), {}, example([]int64{4}, []int64{5, 6})}
	copies := data.Clone(l...)
	if len(copies) != 3 {
		t.Fatal(copies)
	}
	for i := range l {
		if !equal(copies[i], l[i]) {
			t.Error(i, copies)
		}
	}
	copies[0].X[0], copies[2].Y[1], copies[1] = 9, 9, example([]int64{9}, nil)
	l[0].Y[0] = 8
	if !equal(l[0], example([]int64{1, 2}, []int64{8})) || !empty(l[1]) || l[2].Y[1] != 6 || copies[0].Y[0] != 3 {
		t.Error(l, copies)
	}
	if len(data.Clone()) != 0 {
		t.Error("no examples")
	}
	one := example([]int64{1}, nil)
	both := data.Clone(one, one)
	both[0].X[0] = 7
	if both[1].X[0] != 1 {
		t.Error(both)
	}
}

// TestText covers the Text of P10.2, and P10.5.
func TestText(t *testing.T) {
	for i, c := range []struct {
		e    api.Example
		q    int
		want string
	}{
		{example([]int64{3, 2}, []int64{-1}), 1, "1.5 1 > -0.5"},
		{example([]int64{0}, []int64{0}), 0, "0 > 0"},
		{example([]int64{low}, []int64{top, -1}), 0, "-9223372036854775808 > 9223372036854775807 -1"},
		{example([]int64{low}, []int64{low, 1 << 61}), 62, "-2 > -2 0.5"},
		{example([]int64{1, 2, 3}, []int64{4, 5, 6}), 2, "0.25 0.5 0.75 > 1 1.25 1.5"},
	} {
		s, ok := data.Text(c.e, c.q)
		if !ok || s != c.want {
			t.Error(i, s, ok)
		}
		if e, ok := data.Parse(s, c.q); !ok || !equal(e, c.e) {
			t.Error(i, e, ok)
		}
	}
	right := example([]int64{1}, []int64{2})
	for i, c := range []struct {
		e api.Example
		q int
	}{
		{right, -1}, {right, 63}, {right, low}, {right, top}, {api.Example{}, 0}, {example([]int64{1}, nil), 0}, {example(nil, []int64{1}), 0}, {example([]int64{}, []int64{}), -1},
	} {
		if s, ok := data.Text(c.e, c.q); ok || s != "" {
			t.Error(i, s, ok)
		}
	}
}

// TestParseRefuses covers the texts of P10.2 that no example has.
func TestParseRefuses(t *testing.T) {
	for _, s := range []string{
		"", " ", ">", " > ", "1", "1 2", "1 >", "1 > ", "> 1", " > 1", "1 > > 2", "1 > 2 > 3", "1  > 2", "1 >  2", "1 > 2 ", " 1 > 2", "1>2", "1 >2", "1> 2",
		"1 > 2\n", "1\t> 2", "01 > 2", "1 > +2", "1 > 2.0", "1.25 > 2", "1 > 0.25", "x > 2", "1 > x", "1 > -0", "1 < 2", "1 >> 2", "1, 2 > 3", "9223372036854775808 > 1", "4611686018427387904 > 1", ">  > 1",
	} {
		if e, ok := data.Parse(s, 1); ok || !empty(e) {
			t.Error(s, e, ok)
		}
	}
	for _, q := range []int{-1, 63, low, top} {
		if e, ok := data.Parse("1 > 2", q); ok || !empty(e) {
			t.Error(q, e, ok)
		}
	}
}

// TestTextsDiffer covers P10.5: other examples have other texts.
func TestTextsDiffer(t *testing.T) {
	seen := map[string]api.Example{}
	lists := [][]int64{{0}, {1}, {-1}, {0, 0}, {0, 1}, {1, 0}, {10}, {1, 1, 1}, {11}, {top}, {low}, {2}, {4}}
	for _, x := range lists {
		for _, y := range lists {
			for range 2 {
				s, ok := data.Text(example(x, y), 2)
				if before, there := seen[s]; !ok || there && !equal(before, example(x, y)) {
					t.Error(x, y, s)
				}
				seen[s] = example(x, y)
			}
		}
	}
	if len(seen) != len(lists)*len(lists) {
		t.Error(len(seen))
	}
}

// TestPick covers P10.3.
func TestPick(t *testing.T) {
	l := []api.Example{example([]int64{1}, []int64{2}), example([]int64{3}, []int64{4}), example([]int64{5}, []int64{6})}
	picked, ok := data.Pick(l, 2, 0, 2)
	if !ok || len(picked) != 3 || !equal(picked[0], l[2]) || !equal(picked[1], l[0]) || !equal(picked[2], l[2]) {
		t.Fatal(picked, ok)
	}
	picked[0].X[0] = 9
	if picked[2].X[0] != 5 || l[2].X[0] != 5 {
		t.Error(picked, l)
	}
	if picked, ok := data.Pick(l); len(picked) != 0 || !ok {
		t.Error(picked, ok)
	}
	if picked, ok := data.Pick(nil); len(picked) != 0 || !ok {
		t.Error(picked, ok)
	}
	for _, i := range []int{-1, 3, low, top} {
		if picked, ok := data.Pick(l, 0, i, 1); len(picked) != 0 || ok {
			t.Error(i, picked, ok)
		}
	}
	if picked, ok := data.Pick(nil, 0); len(picked) != 0 || ok {
		t.Error(picked, ok)
	}
}

// TestRange covers P10.4.
func TestRange(t *testing.T) {
	for i, c := range []struct {
		l      []api.Example
		lo, hi int64
		ok     bool
	}{
		{nil, 0, 0, false},
		{[]api.Example{{}, {}}, 0, 0, false},
		{[]api.Example{{}, example(nil, []int64{5})}, 5, 5, true},
		{[]api.Example{example([]int64{-5}, nil), {}}, -5, -5, true},
		{[]api.Example{example([]int64{0}, nil)}, 0, 0, true},
		{[]api.Example{example([]int64{4, 2}, []int64{9}), example([]int64{3}, []int64{7})}, 2, 9, true},
		{[]api.Example{example([]int64{4, 9}, []int64{5}), example([]int64{3}, []int64{-7})}, -7, 9, true},
		{[]api.Example{example([]int64{top}, []int64{low})}, low, top, true},
		{[]api.Example{example([]int64{-3, -2}, []int64{-1})}, -3, -1, true},
	} {
		if lo, hi, ok := data.Range(c.l...); lo != c.lo || hi != c.hi || ok != c.ok {
			t.Error(i, lo, hi, ok)
		}
	}
}
