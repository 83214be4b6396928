package sgd_test

import (
	"math"
	"testing"

	"sakia/fixp"
	"sakia/part"
	"sakia/sgd"
	"sakia/vec"
)

const (
	top = math.MaxInt
	low = math.MinInt
)

func empty(s sgd.State) bool {
	return len(s.P) == 0 && len(s.M) == 0
}

// filled returns numbers of all sizes.
func filled(n int, seed uint64) vec.Vector {
	v := make(vec.Vector, n)
	for i := range v {
		seed = seed*6364136223846793005 + 1442695040888963407
		v[i] = int64(seed) >> (seed >> 20 % 60)
	}
	return v
}

func rules() []sgd.Rule {
	var l []sgd.Rule
	for _, q := range []int{-1, 0, 1, 8, 30, 62, 63} {
		l = append(l, sgd.Rule{Rate: 3, Momentum: 5, Shift: q}, sgd.Rule{Rate: -1 << 20, Momentum: 1 << 19, Shift: q}, sgd.Rule{Rate: low, Momentum: top, Shift: q}, sgd.Rule{Shift: q})
	}
	return l
}

// after is a step by its definition.
func after(r sgd.Rule, s sgd.State, g vec.Vector) sgd.State {
	var next sgd.State
	for i := range s.P {
		m := fixp.Mul(r.Momentum, s.M[i], r.Shift) + g[i]
		next.M = append(next.M, m)
		next.P = append(next.P, s.P[i]-fixp.Mul(r.Rate, m, r.Shift))
	}
	return next
}

// TestStart covers P13.1.
func TestStart(t *testing.T) {
	p := vec.Vector{1, low, top}
	s := sgd.Start(p)
	if !s.P.Same(p) || !s.M.Same(vec.Vector{0, 0, 0}) {
		t.Error(s)
	}
	p[0] = 9
	if s.P[0] != 1 {
		t.Error(s)
	}
	if !empty(sgd.Start(nil)) {
		t.Error("no parameters")
	}
	s.M[1] = 7
	c := sgd.Clone(s)
	if !c.P.Same(s.P) || !c.M.Same(s.M) {
		t.Error(c)
	}
	c.P[0], c.M[0] = 5, 5
	if s.P[0] != 1 || s.M[0] != 0 {
		t.Error(s)
	}
	if odd := sgd.Clone(sgd.State{P: vec.Vector{1}}); len(odd.P) != 1 || len(odd.M) != 0 {
		t.Error(odd)
	}
}

// TestSame covers the Same of P13.1.
func TestSame(t *testing.T) {
	a := sgd.State{P: vec.Vector{1, 2}, M: vec.Vector{3, 4}}
	for i, c := range []struct {
		a, b sgd.State
		want bool
	}{
		{a, sgd.Clone(a), true},
		{sgd.State{}, sgd.State{P: vec.Vector{}, M: vec.Vector{}}, true},
		{a, sgd.State{P: vec.Vector{1, 3}, M: vec.Vector{3, 4}}, false},
		{a, sgd.State{P: vec.Vector{1, 2}, M: vec.Vector{3, 5}}, false},
		{a, sgd.State{P: vec.Vector{1, 2}, M: vec.Vector{3}}, false},
		{a, sgd.State{P: vec.Vector{1}, M: vec.Vector{3, 4}}, false},
		{a, sgd.State{P: vec.Vector{3, 4}, M: vec.Vector{1, 2}}, false},
		{a, sgd.State{}, false},
	} {
		if sgd.Same(c.a, c.b) != c.want || sgd.Same(c.b, c.a) != c.want {
			t.Error(i)
		}
	}
}

// TestNext covers P13.2.
func TestNext(t *testing.T) {
	r := sgd.Rule{Rate: 1, Momentum: 1, Shift: 1}
	s, ok := r.Next(sgd.State{P: vec.Vector{10}, M: vec.Vector{4}}, vec.Vector{2})
	if !ok || !s.P.Same(vec.Vector{8}) || !s.M.Same(vec.Vector{4}) {
		t.Error(s, ok)
	}
	for i, r := range rules() {
		s := sgd.State{P: filled(20, uint64(i)), M: filled(20, uint64(i)+100)}
		g, before := filled(20, uint64(i)+200), sgd.Clone(s)
		next, ok := r.Next(s, g)
		if !ok || !sgd.Same(next, after(r, s, g)) {
			t.Fatal(r, next, ok)
		}
		for k := range next.P {
			next.P[k], next.M[k] = 9, 9
		}
		if !sgd.Same(s, before) || !g.Same(filled(20, uint64(i)+200)) {
			t.Fatal("the arguments have changed")
		}
	}
	if s, ok := r.Next(sgd.State{}, nil); !empty(s) || !ok {
		t.Error(s, ok)
	}
	one, two := vec.Vector{1}, vec.Vector{1, 2}
	for i, c := range [][3]vec.Vector{{one, two, two}, {two, one, two}, {two, two, one}, {one, one, nil}, {nil, nil, one}, {one, nil, nil}, {nil, one, nil}, {one, one, two}, {nil, one, one}} {
		if s, ok := r.Next(sgd.State{P: c[0], M: c[1]}, c[2]); !empty(s) || ok {
			t.Error(i, s, ok)
		}
	}
}

// TestApply covers P13.3 and P13.5.
func TestApply(t *testing.T) {
	for i, r := range rules() {
		s := sgd.State{P: filled(11, uint64(i)), M: filled(11, uint64(i)+100)}
		g := filled(11, uint64(i)+200)
		want := after(r, s, g)
		for _, at := range []part.Range{{Lo: 4, Hi: 9}, {Lo: 9, Hi: 9}, {Lo: 9, Hi: 11}, {Lo: 0, Hi: 1}, {Lo: 1, Hi: 4}, {Lo: 11, Hi: 11}, {}} {
			before := sgd.Clone(s)
			if !r.Apply(s, at, g[at.Lo:at.Hi]) {
				t.Fatal(r, at)
			}
			for k := range s.P {
				inside := k >= at.Lo && k < at.Hi
				if inside && (s.P[k] != want.P[k] || s.M[k] != want.M[k]) || !inside && (s.P[k] != before.P[k] || s.M[k] != before.M[k]) {
					t.Fatal(r, at, k, s)
				}
			}
		}
		next, _ := r.Next(sgd.State{P: filled(11, uint64(i)), M: filled(11, uint64(i)+100)}, g)
		if !sgd.Same(s, next) || !g.Same(filled(11, uint64(i)+200)) {
			t.Fatal(r, s, next)
		}
	}
}

// TestApplyRefuses covers the failures of P13.3.
func TestApplyRefuses(t *testing.T) {
	r := sgd.Rule{Rate: 1, Momentum: 1, Shift: 0}
	three := vec.Vector{1, 2, 3}
	for i, c := range []struct {
		p, m vec.Vector
		at   part.Range
		g    vec.Vector
	}{
		{three, three[:2], part.Range{Lo: 0, Hi: 2}, three[:2]},
		{three[:2], three, part.Range{Lo: 0, Hi: 2}, three[:2]},
		{three, nil, part.Range{}, nil},
		{three, three, part.Range{Lo: -1, Hi: 1}, three[:2]},
		{three, three, part.Range{Lo: -1, Hi: -1}, nil},
		{three, three, part.Range{Lo: 2, Hi: 4}, three[:2]},
		{three, three, part.Range{Lo: 4, Hi: 4}, nil},
		{three, three, part.Range{Lo: 2, Hi: 1}, nil},
		{three, three, part.Range{Lo: 0, Hi: 3}, three[:2]},
		{three, three, part.Range{Lo: 0, Hi: 2}, three},
		{three, three, part.Range{Lo: 1, Hi: 1}, three[:1]},
		{three, three, part.Range{Lo: low, Hi: top}, three},
		{three, three, part.Range{Lo: top, Hi: low}, nil},
		{three, three, part.Range{Lo: 0, Hi: top}, three},
		{three, three, part.Range{Lo: low, Hi: 3}, three},
		{nil, nil, part.Range{Lo: 0, Hi: 1}, three[:1]},
	} {
		s := sgd.State{P: c.p.Clone(), M: c.m.Clone()}
		if r.Apply(s, c.at, c.g) || !s.P.Same(c.p) || !s.M.Same(c.m) {
			t.Error(i, s)
		}
	}
	if !r.Apply(sgd.State{}, part.Range{}, nil) {
		t.Error("an empty state")
	}
}

// TestRun covers P13.4.
func TestRun(t *testing.T) {
	r := sgd.Rule{Rate: 3, Momentum: 200, Shift: 8}
	s := sgd.State{P: filled(5, 1), M: filled(5, 2)}
	before := sgd.Clone(s)
	l := []vec.Vector{filled(5, 3), filled(5, 4), filled(5, 5)}
	states, ok := r.Run(s, l...)
	if !ok || len(states) != 3 {
		t.Fatal(states, ok)
	}
	want := s
	for i, g := range l {
		want = after(r, want, g)
		if !sgd.Same(states[i], want) {
			t.Error(i, states[i], want)
		}
	}
	kept := sgd.Clone(states[1])
	states[0].P[0], states[0].M[0], states[2].P[0], states[2].M[0] = 9, 9, 9, 9
	if !sgd.Same(states[1], kept) || !sgd.Same(s, before) {
		t.Error("the states share memory")
	}
	if states, ok := r.Run(s); len(states) != 0 || !ok {
		t.Error(states, ok)
	}
	if states, ok := r.Run(sgd.State{P: vec.Vector{1}}); len(states) != 0 || !ok {
		t.Error(states, ok)
	}
	for i, l := range [][]vec.Vector{{filled(4, 3)}, {filled(5, 3), nil}, {filled(5, 3), filled(6, 3), filled(5, 3)}} {
		if states, ok := r.Run(s, l...); len(states) != 0 || ok {
			t.Error(i, states, ok)
		}
	}
	if states, ok := r.Run(sgd.State{P: vec.Vector{1}}, vec.Vector{1}); len(states) != 0 || ok {
		t.Error(states, ok)
	}
}
