package mat_test

import (
	"math"
	"testing"

	"sakia/api"
	"sakia/fixp"
	"sakia/mat"
	"sakia/vec"
)

const (
	top = math.MaxInt64
	low = math.MinInt64
)

func zero(m mat.Matrix) bool {
	return m.Rows == 0 && m.Cols == 0 && len(m.V) == 0
}

func same(a, b mat.Matrix) bool {
	return a.Rows == b.Rows && a.Cols == b.Cols && a.V.Same(b.V)
}

// filled returns a matrix with numbers of all sizes.
func filled(rows, cols int) mat.Matrix {
	m := mat.New(rows, cols)
	x := uint64(rows*1000 + cols)
	for i := range m.V {
		x = x*6364136223846793005 + 1442695040888963407
		m.V[i] = int64(x) >> (i % 64)
	}
	return m
}

func column(n int) vec.Vector {
	return filled(n, 1).V
}

// wrong returns matrices that are not right.
func wrong() []mat.Matrix {
	return []mat.Matrix{
		{},
		{Rows: 1, Cols: 0},
		{Rows: 0, Cols: 1},
		{Rows: -1, Cols: -1, V: vec.Vector{5}},
		{Rows: 2, Cols: 2, V: vec.Vector{1, 2, 3}},
		{Rows: 2, Cols: 2, V: vec.Vector{1, 2, 3, 4, 5}},
		{Rows: 1, Cols: 1},
		{Rows: 1 << 32, Cols: 1 << 32},
		{Rows: low, Cols: 2},
		{Rows: 1, Cols: api.MaxSize + 1, V: make(vec.Vector, api.MaxSize+1)},
		{Rows: api.MaxSize + 1, Cols: 1, V: make(vec.Vector, api.MaxSize+1)},
		{Rows: top, Cols: top, V: vec.Vector{1}},
	}
}

// TestNew covers the New of P7.1.
func TestNew(t *testing.T) {
	for _, c := range [][2]int{{1, 1}, {2, 3}, {1, api.MaxSize}, {api.MaxSize, 1}, {1024, 1024}} {
		m := mat.New(c[0], c[1])
		if m.Rows != c[0] || m.Cols != c[1] || len(m.V) != c[0]*c[1] || !m.Right() {
			t.Error(c)
		}
		for _, x := range m.V {
			if x != 0 {
				t.Fatal(c, x)
			}
		}
	}
	for _, c := range [][2]int{{0, 0}, {0, 1}, {1, 0}, {-1, -1}, {-2, 3}, {1025, 1024}, {1, api.MaxSize + 1}, {api.MaxSize + 1, 1}, {1 << 32, 1 << 32}, {top, top}, {low, low}, {low, 2}, {1 << 62, 4}, {top, 1}, {1, top}, {3, top}} {
		if m := mat.New(c[0], c[1]); !zero(m) {
			t.Error(c, m.Rows, m.Cols)
		}
	}
}

// TestOf covers the Of and the Right of P7.1.
func TestOf(t *testing.T) {
	v := vec.Vector{1, 2, 3, 4, 5, 6}
	m, ok := mat.Of(2, 3, v)
	if !ok || m.Rows != 2 || m.Cols != 3 || !m.V.Same(v) || !m.Right() {
		t.Error(m, ok)
	}
	m.V[0] = 9
	if v[0] != 1 {
		t.Error(v)
	}
	for i, w := range wrong() {
		if w.Right() {
			t.Error(i)
		}
		if m, ok := mat.Of(w.Rows, w.Cols, w.V); ok || !zero(m) {
			t.Error(i, ok)
		}
	}
	big := make(vec.Vector, 2*api.MaxSize)
	big[len(big)-1] = 5
	m, ok = mat.Of(2, api.MaxSize, big)
	if !ok || !m.Right() || m.At(1, api.MaxSize-1) != 5 {
		t.Error(ok)
	}
	if turned := m.Turn(); turned.Rows != api.MaxSize || !turned.Right() || turned.At(api.MaxSize-1, 1) != 5 {
		t.Error(turned.Rows)
	}
}

// TestAt covers the At of P7.1.
func TestAt(t *testing.T) {
	m := mat.Matrix{Rows: 2, Cols: 3, V: vec.Vector{1, 2, 3, 4, 5, 6}}
	for r := range 2 {
		for c := range 3 {
			if got := m.At(r, c); got != int64(3*r+c+1) {
				t.Error(r, c, got)
			}
		}
	}
	for _, c := range [][2]int{{-1, 0}, {0, -1}, {2, 0}, {0, 3}, {-1, 3}, {1, -1}, {top, top}, {low, low}, {low, 0}, {0, top}} {
		if got := m.At(c[0], c[1]); got != 0 {
			t.Error(c, got)
		}
	}
	for i, w := range wrong() {
		if got := w.At(0, 0); got != 0 {
			t.Error(i, got)
		}
	}
}

// TestMul covers P7.2.
func TestMul(t *testing.T) {
	m := mat.Matrix{Rows: 2, Cols: 2, V: vec.Vector{1, 2, 3, 4}}
	if got, ok := m.Mul(vec.Vector{1, 1}, 0); !ok || !got.Same(vec.Vector{3, 7}) {
		t.Error(got, ok)
	}
	if got, ok := m.Mul(vec.Vector{1, 1}, 1); !ok || !got.Same(vec.Vector{1, 3}) {
		t.Error(got, ok)
	}
	for _, c := range [][2]int{{1, 1}, {3, 2}, {2, 3}, {5, 7}} {
		m, x := filled(c[0], c[1]), column(c[1])
		for _, q := range []int{-1, 0, 1, 16, 62, 63} {
			got, ok := m.Mul(x, q)
			if !ok || len(got) != c[0] {
				t.Fatal(c, got, ok)
			}
			for r := range c[0] {
				var want int64
				for k := range c[1] {
					want += fixp.Mul(m.At(r, k), x[k], q)
				}
				if got[r] != want {
					t.Error(c, q, got)
				}
			}
		}
	}
	for i, x := range []vec.Vector{nil, {1}, {1, 2, 3}} {
		if got, ok := m.Mul(x, 0); ok || len(got) != 0 {
			t.Error(i, got, ok)
		}
	}
	for i, w := range wrong() {
		if got, ok := w.Mul(make(vec.Vector, max(min(w.Cols, 10), 0)), 0); ok || len(got) != 0 {
			t.Error(i, got, ok)
		}
	}
}

// TestBack covers P7.3 and P7.5.
func TestBack(t *testing.T) {
	m := mat.Matrix{Rows: 2, Cols: 2, V: vec.Vector{1, 2, 3, 4}}
	if got, ok := m.Back(vec.Vector{1, 10}, 0); !ok || !got.Same(vec.Vector{31, 42}) {
		t.Error(got, ok)
	}
	for _, c := range [][2]int{{1, 1}, {3, 2}, {2, 3}, {5, 7}, {64, 3}} {
		m, y := filled(c[0], c[1]), column(c[0])
		turned := m.Turn()
		if turned.Rows != c[1] || turned.Cols != c[0] || !turned.Right() || !same(turned.Turn(), m) {
			t.Fatal(c, turned)
		}
		for r := range c[0] {
			for k := range c[1] {
				if turned.At(k, r) != m.At(r, k) {
					t.Fatal(c, turned)
				}
			}
		}
		for _, q := range []int{-1, 0, 1, 16, 62, 63} {
			got, ok := m.Back(y, q)
			want, _ := turned.Mul(y, q)
			if !ok || !got.Same(want) {
				t.Error(c, q, got, ok)
			}
		}
	}
	for i, y := range []vec.Vector{nil, {1}, {1, 2, 3}} {
		if got, ok := m.Back(y, 0); ok || len(got) != 0 {
			t.Error(i, got, ok)
		}
	}
	for i, w := range wrong() {
		if got, ok := w.Back(make(vec.Vector, max(min(w.Rows, 10), 0)), 0); ok || len(got) != 0 {
			t.Error(i, got, ok)
		}
		if !zero(w.Turn()) {
			t.Error(i)
		}
	}
}

// TestOuter covers P7.4.
func TestOuter(t *testing.T) {
	y, x := vec.Vector{3, -3, low}, vec.Vector{1, -1, top, 5}
	for _, q := range []int{-1, 0, 1, 16, 62, 63} {
		m := mat.Outer(y, x, q)
		if m.Rows != 3 || m.Cols != 4 || !m.Right() {
			t.Fatal(m)
		}
		for r := range y {
			for c := range x {
				if m.At(r, c) != fixp.Mul(y[r], x[c], q) {
					t.Error(q, r, c, m)
				}
			}
		}
	}
	for _, c := range [][2]int{{0, 0}, {0, 3}, {3, 0}, {1025, 1024}, {1, api.MaxSize + 1}, {api.MaxSize, 2}} {
		if m := mat.Outer(make(vec.Vector, c[0]), make(vec.Vector, c[1]), 3); !zero(m) {
			t.Error(c, m.Rows, m.Cols)
		}
	}
	if m := mat.Outer(make(vec.Vector, 1024), make(vec.Vector, 1024), 3); m.Rows != 1024 || m.Cols != 1024 || !m.Right() {
		t.Error(m.Rows, m.Cols)
	}
}

// TestKeepsArguments: nothing that was given is changed, and no memory is shared.
func TestKeepsArguments(t *testing.T) {
	m := filled(1, 2)
	before := m.V.Clone()
	x, y := vec.Vector{1 << 40, 7}, vec.Vector{1 << 30}
	product, _ := m.Mul(x, 3)
	back, _ := m.Back(y, 3)
	turned, outer := m.Turn(), mat.Outer(y, x, 3)
	product[0], back[0], turned.V[0], outer.V[0] = 1, 1, 1, 1
	if !m.V.Same(before) || !x.Same(vec.Vector{1 << 40, 7}) || !y.Same(vec.Vector{1 << 30}) {
		t.Error(m, x, y)
	}
}
