package net_test

import (
	"math"
	"testing"

	"sakia/api"
	"sakia/fixp"
	"sakia/net"
	"sakia/shape"
	"sakia/vec"
)

const (
	top = math.MaxInt64
	low = math.MinInt64
)

func layout(t *testing.T, sizes ...int) *shape.Shape {
	t.Helper()
	s, code := shape.New(sizes...)
	if code != api.OK {
		t.Fatal(sizes, code)
	}
	return s
}

func made(t *testing.T, p vec.Vector, q int, sizes ...int) *net.Net {
	t.Helper()
	n, ok := net.New(layout(t, sizes...), p, q)
	if !ok || n == nil {
		t.Fatal(sizes, ok)
	}
	return n
}

// filled returns numbers of both signs below a bound.
func filled(n int, seed, bound uint64) vec.Vector {
	v := make(vec.Vector, n)
	for i := range v {
		seed = seed*6364136223846793005 + 1442695040888963407
		v[i] = int64(seed>>33%bound) - int64(bound/2)
	}
	return v
}

// reference calculates a network by its definition.
type reference struct {
	sizes []int
	p     vec.Vector
	q     int
}

// start returns the first parameter of a link.
func (f reference) start(k int) int {
	i := 0
	for j := range k {
		i += (f.sizes[j] + 1) * f.sizes[j+1]
	}
	return i
}

func (f reference) weight(k, row, col int) int {
	return f.start(k) + row*f.sizes[k] + col
}

func (f reference) bias(k, row int) int {
	return f.start(k) + f.sizes[k]*f.sizes[k+1] + row
}

// run returns the sums and the values of all layers.
func (f reference) run(x vec.Vector) (sums, values []vec.Vector) {
	sums, values = []vec.Vector{x}, []vec.Vector{x}
	for k := range len(f.sizes) - 1 {
		var z, v vec.Vector
		for row := range f.sizes[k+1] {
			s := f.p[f.bias(k, row)]
			for col := range f.sizes[k] {
				s += fixp.Mul(f.p[f.weight(k, row, col)], values[k][col], f.q)
			}
			z = append(z, s)
			if k+2 < len(f.sizes) && s < 0 {
				s = 0
			}
			v = append(v, s)
		}
		sums, values = append(sums, z), append(values, v)
	}
	return sums, values
}

// gradient returns the loss and the gradient of an example.
func (f reference) gradient(x, y vec.Vector) (int64, vec.Vector) {
	sums, values := f.run(x)
	last := len(f.sizes) - 1
	g := make(vec.Vector, f.start(last))
	errors := make(vec.Vector, f.sizes[last])
	loss := int64(0)
	for i, v := range values[last] {
		errors[i] = v - y[i]
		loss += fixp.Mul(errors[i], errors[i], f.q)
	}
	for k := last - 1; k >= 0; k-- {
		next := make(vec.Vector, f.sizes[k])
		for row, e := range errors {
			g[f.bias(k, row)] = e
			for col := range f.sizes[k] {
				g[f.weight(k, row, col)] = fixp.Mul(e, values[k][col], f.q)
				next[col] += fixp.Mul(f.p[f.weight(k, row, col)], e, f.q)
			}
		}
		for col := range next {
			if sums[k][col] <= 0 {
				next[col] = 0
			}
		}
		errors = next
	}
	return loss, g
}

// TestNew covers P9.1.
func TestNew(t *testing.T) {
	s := layout(t, 2, 3, 1)
	p := filled(13, 1, 100)
	before := p.Clone()
	for _, q := range []int{0, 1, 62} {
		n, ok := net.New(s, p, q)
		if !ok || !n.Params().Same(p) {
			t.Error(q, ok)
		}
	}
	n := made(t, p, 4, 2, 3, 1)
	p[0] = 77
	if !n.Params().Same(before) {
		t.Error(n.Params())
	}
	n.Params()[0] = 78
	if !n.Params().Same(before) {
		t.Error(n.Params())
	}
	for i, c := range []struct {
		s *shape.Shape
		p vec.Vector
		q int
	}{
		{nil, p, 4}, {nil, nil, 4}, {s, p, -1}, {s, p, 63}, {s, p, low}, {s, p, top}, {s, nil, 4}, {s, p[1:], 4}, {s, append(p.Clone(), 0), 4},
	} {
		if n, ok := net.New(c.s, c.p, c.q); n != nil || ok {
			t.Error(i, ok)
		}
	}
}

// TestExample is the example of the chapter.
func TestExample(t *testing.T) {
	n := made(t, vec.Vector{3, 1}, 0, 1, 1)
	if out, ok := n.Run(vec.Vector{2}); !ok || !out.Same(vec.Vector{7}) {
		t.Error(out, ok)
	}
	if g, ok := n.Gradient(vec.Vector{2}, vec.Vector{5}); !ok || !g.Same(vec.Vector{4, 2}) {
		t.Error(g, ok)
	}
	if loss, ok := n.Loss(vec.Vector{2}, vec.Vector{5}); !ok || loss != 4 {
		t.Error(loss, ok)
	}
}

// TestGates: an inner value is 0, and passes no error, if its sum is 0 or less; an output may be negative.
func TestGates(t *testing.T) {
	n := made(t, vec.Vector{1, 1, 1, 0, -1, 1, 5, 6, 7, -3}, 0, 1, 3, 1)
	values, ok := n.Trace(vec.Vector{1})
	if !ok || len(values) != 3 || !values[0].Same(vec.Vector{1}) || !values[1].Same(vec.Vector{1, 0, 2}) || !values[2].Same(vec.Vector{16}) {
		t.Error(values, ok)
	}
	g, ok := n.Gradient(vec.Vector{1}, vec.Vector{15})
	if !ok || !g.Same(vec.Vector{5, 0, 7, 5, 0, 7, 1, 0, 2, 1}) {
		t.Error(g, ok)
	}
	if out, ok := n.Run(vec.Vector{-9}); !ok || !out.Same(vec.Vector{-3}) {
		t.Error(out, ok)
	}
}

// TestReference covers P9.2 and P9.3.
func TestReference(t *testing.T) {
	for _, sizes := range [][]int{{1, 1}, {2, 3, 1}, {3, 5, 4, 2}, {1, 1, 1, 1, 1, 1, 1, 1, 1, 1, 1, 1, 1, 1, 1, 1}, {7, 2}, {4, 6, 6, 6, 3}} {
		s := layout(t, sizes...)
		for seed := range uint64(20) {
			for _, q := range []int{0, 1, 8, 16, 40, 62} {
				p := filled(s.Count(), seed, 1<<(q/2+3))
				x := filled(sizes[0], seed+100, 1<<(q/2+3))
				y := filled(sizes[len(sizes)-1], seed+200, 1<<(q/2+3))
				if seed == 19 {
					p, x, y = filled(s.Count(), 1, math.MaxUint64), filled(sizes[0], 2, math.MaxUint64), vec.Scale(y, low, 0)
				}
				checkReference(t, reference{sizes, p, q}, made(t, p, q, sizes...), x, y)
			}
		}
	}
}

func checkReference(t *testing.T, f reference, n *net.Net, x, y vec.Vector) {
	t.Helper()
	_, want := f.run(x)
	values, ok := n.Trace(x)
	if !ok || len(values) != len(want) {
		t.Fatal(f, values, ok)
	}
	for k := range want {
		if !values[k].Same(want[k]) {
			t.Fatal(f, k, values, want)
		}
	}
	if out, ok := n.Run(x); !ok || !out.Same(want[len(want)-1]) {
		t.Fatal(f, out, ok)
	}
	loss, g := f.gradient(x, y)
	if got, ok := n.Loss(x, y); !ok || got != loss {
		t.Fatal(f, got, loss)
	}
	if got, ok := n.Gradient(x, y); !ok || !got.Same(g) {
		t.Fatal(f, got, g)
	}
	out := want[len(want)-1]
	if got, ok := n.Loss(x, out); !ok || got != 0 {
		t.Fatal(f, got)
	}
	if got, ok := n.Gradient(x, out); !ok || !got.Same(make(vec.Vector, len(g))) {
		t.Fatal(f, got)
	}
	if !n.Params().Same(f.p) {
		t.Fatal("the parameters have changed")
	}
}

// TestRefuses covers the failures of P9.2 and P9.3.
func TestRefuses(t *testing.T) {
	n := made(t, filled(11, 3, 50), 4, 2, 2, 1, 1)
	right, wanted := vec.Vector{1, 2}, vec.Vector{3}
	for _, x := range []vec.Vector{nil, {}, {1}, {1, 2, 3}} {
		if values, ok := n.Trace(x); len(values) != 0 || ok {
			t.Error(x, values, ok)
		}
		if out, ok := n.Run(x); len(out) != 0 || ok {
			t.Error(x, out, ok)
		}
		if loss, ok := n.Loss(x, wanted); loss != 0 || ok {
			t.Error(x, loss, ok)
		}
		if g, ok := n.Gradient(x, wanted); len(g) != 0 || ok {
			t.Error(x, g, ok)
		}
	}
	for _, y := range []vec.Vector{nil, {}, {1, 2}, {1, 2, 3}} {
		if loss, ok := n.Loss(right, y); loss != 0 || ok {
			t.Error(y, loss, ok)
		}
		if g, ok := n.Gradient(right, y); len(g) != 0 || ok {
			t.Error(y, g, ok)
		}
	}
}

// TestMemory: results share no memory with arguments or with the network.
func TestMemory(t *testing.T) {
	p := filled(13, 5, 1000)
	n := made(t, p, 4, 2, 3, 1)
	x, y := vec.Vector{100, -50}, vec.Vector{7}
	first, _ := n.Trace(x)
	g, _ := n.Gradient(x, y)
	values, _ := n.Trace(x)
	for _, v := range values {
		for i := range v {
			v[i] = 99
		}
	}
	again, _ := n.Trace(x)
	for k := range first {
		if !again[k].Same(first[k]) {
			t.Error(k, again)
		}
	}
	other, _ := n.Gradient(x, y)
	want := g.Clone()
	other[0]++
	if !g.Same(want) || !n.Params().Same(p) || !x.Same(vec.Vector{100, -50}) || !y.Same(vec.Vector{7}) {
		t.Error(g, x, y)
	}
}

// TestNil: on a nil Net, all methods return zero values.
func TestNil(t *testing.T) {
	var n *net.Net
	if values, ok := n.Trace(nil); len(values) != 0 || ok {
		t.Error(values, ok)
	}
	if out, ok := n.Run(nil); len(out) != 0 || ok {
		t.Error(out, ok)
	}
	if loss, ok := n.Loss(nil, nil); loss != 0 || ok {
		t.Error(loss, ok)
	}
	if g, ok := n.Gradient(nil, nil); len(g) != 0 || ok {
		t.Error(g, ok)
	}
	if len(n.Params()) != 0 {
		t.Error(n.Params())
	}
}
