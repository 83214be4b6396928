package serial_test

import (
	"math"
	"slices"
	"testing"

	"sakia/api"
	"sakia/net"
	"sakia/sampler"
	"sakia/serial"
	"sakia/sgd"
	"sakia/shape"
	"sakia/vec"
)

const (
	top = math.MaxInt
	low = math.MinInt
)

// filled returns numbers of both signs below a bound.
func filled(n int, seed, bound uint64) []int64 {
	v := make([]int64, n)
	for i := range v {
		seed = seed*6364136223846793005 + 1442695040888963407
		v[i] = int64(seed>>33%bound) - int64(bound/2)
	}
	return v
}

// input returns a right input with 9 examples: 2 steps in each epoch, and 3 epochs.
func input() api.Input {
	in := api.Input{
		Config: api.Config{Sizes: []int{2, 3, 2}, Shift: 8, Rate: 20, Momentum: 100, Workers: 2, Batch: 4, Micros: 3, Steps: 5, Bucket: 6, Chunk: 7, Window: 9, Capacity: 10},
		Start:  filled(17, 1, 500),
	}
	for i := range 9 {
		in.Data = append(in.Data, api.Example{X: filled(2, uint64(i)+10, 600), Y: filled(2, uint64(i)+20, 600)})
	}
	for _, x := range filled(24, 5, 1<<30) {
		in.Draws = append(in.Draws, uint64(x))
	}
	return in
}

func made(t *testing.T, in api.Input) *serial.Run {
	t.Helper()
	r, code := serial.New(in)
	if r == nil || code != api.OK {
		t.Fatal(code)
	}
	return r
}

// sums returns the gradient and the loss of some examples by their definitions.
func sums(t *testing.T, in api.Input, p vec.Vector, indices []int) (vec.Vector, int64) {
	t.Helper()
	s, _ := shape.New(in.Config.Sizes...)
	n, ok := net.New(s, p, in.Config.Shift)
	if !ok {
		t.Fatal("no network")
	}
	total, loss := make(vec.Vector, len(p)), int64(0)
	for _, i := range indices {
		g, _ := n.Gradient(in.Data[i].X, in.Data[i].Y)
		l, _ := n.Loss(in.Data[i].X, in.Data[i].Y)
		for k, x := range g {
			total[k] += x
		}
		loss += l
	}
	return total, loss
}

// trajectory returns the states of a run by their definition.
func trajectory(t *testing.T, in api.Input) []sgd.State {
	t.Helper()
	c := in.Config
	batches, _ := sampler.New(len(in.Data), c.Batch, c.Steps, in.Draws...)
	states := []sgd.State{sgd.Start(in.Start)}
	for step := range c.Steps {
		s := states[step]
		g, _ := sums(t, in, s.P, batches.Batch(step))
		next, ok := sgd.Rule{Rate: c.Rate, Momentum: c.Momentum, Shift: c.Shift}.Next(s, g)
		if !ok {
			t.Fatal("no state")
		}
		states = append(states, next)
	}
	return states
}

func same(a, b []sgd.State) bool {
	return slices.EqualFunc(a, b, sgd.Same)
}

// bad returns inputs that are not right, with their codes.
func bad() map[api.Code]api.Input {
	l := map[api.Code]api.Input{}
	for code, f := range map[api.Code]func(in *api.Input){
		api.ErrWorkers: func(in *api.Input) { in.Config.Workers = 0 },
		api.ErrShift:   func(in *api.Input) { in.Config.Shift = 0 },
		api.ErrShape:   func(in *api.Input) { in.Start = nil },
		api.ErrLong:    func(in *api.Input) { in.Config.Sizes = []int{2, 1 << 20, 2} },
		api.ErrRange:   func(in *api.Input) { in.Config.Window = 0 },
		api.ErrBatch:   func(in *api.Input) { in.Data = in.Data[:3] },
		api.ErrDraws:   func(in *api.Input) { in.Draws = in.Draws[:23] },
	} {
		in := input()
		f(&in)
		l[code] = in
	}
	return l
}

// TestNew covers P14.1.
func TestNew(t *testing.T) {
	in := input()
	r := made(t, in)
	if r.Steps() != 0 || !sgd.Same(r.State(), sgd.Start(in.Start)) {
		t.Error(r.Steps(), r.State())
	}
	for want, in := range bad() {
		if r, code := serial.New(in); r != nil || code != want {
			t.Error(want, code)
		}
	}
	if r, code := serial.New(api.Input{}); r != nil || code != api.ErrWorkers {
		t.Error(code)
	}
}

// TestNewKeepsNothing: changing the input afterwards changes nothing.
func TestNewKeepsNothing(t *testing.T) {
	in := input()
	want := trajectory(t, in)
	r := made(t, in)
	clear(in.Start)
	clear(in.Draws)
	for i := range in.Data {
		clear(in.Data[i].X)
		clear(in.Data[i].Y)
	}
	clear(in.Data)
	clear(in.Config.Sizes)
	for i := range want {
		if !sgd.Same(r.State(), want[i]) {
			t.Error(i)
		}
		r.Step()
	}
}

// TestStep covers P14.2.
func TestStep(t *testing.T) {
	in := input()
	want := trajectory(t, in)
	r := made(t, in)
	for step := range 5 {
		if !r.Step() || r.Steps() != step+1 || !sgd.Same(r.State(), want[step+1]) {
			t.Error(step, r.Steps(), r.State())
		}
		s := r.State()
		s.P[0], s.M[0] = 9, 9
		if !sgd.Same(r.State(), want[step+1]) {
			t.Error("a state is not a copy")
		}
	}
	for range 2 {
		if r.Step() || r.Steps() != 5 || !sgd.Same(r.State(), want[5]) {
			t.Error(r.Steps())
		}
	}
}

// TestGradient covers P14.3.
func TestGradient(t *testing.T) {
	in := input()
	r := made(t, in)
	for range 3 {
		for _, l := range [][]int{nil, {0}, {8}, {3, 3, 3}, {0, 1, 2, 3, 4, 5, 6, 7, 8}, {5, 0, 5}} {
			g, loss := sums(t, in, r.State().P, l)
			if got, ok := r.Gradient(l...); !got.Same(g) || !ok {
				t.Error(l, got, ok)
			}
			if got, ok := r.Loss(l...); got != loss || !ok {
				t.Error(l, got, ok)
			}
		}
		r.Step()
	}
	for _, i := range []int{-1, 9, low, top} {
		for _, l := range [][]int{{i}, {0, 1, i}, {i, 0, 1}} {
			if g, ok := r.Gradient(l...); len(g) != 0 || ok {
				t.Error(l, g, ok)
			}
			if loss, ok := r.Loss(l...); loss != 0 || ok {
				t.Error(l, loss, ok)
			}
		}
	}
	if r.Steps() != 3 {
		t.Error(r.Steps())
	}
}

// TestTrain covers P14.4.
func TestTrain(t *testing.T) {
	in := input()
	states, code := serial.Train(in)
	if code != api.OK || !same(states, trajectory(t, in)) {
		t.Error(states, code)
	}
	states[0].P[0]++
	if states[1].P.Same(states[0].P) || in.Start[0] == states[0].P[0] {
		t.Error("states share memory")
	}
	in.Config.Steps, in.Draws = 0, nil
	states, code = serial.Train(in)
	if code != api.OK || len(states) != 1 || !sgd.Same(states[0], sgd.Start(in.Start)) {
		t.Error(states, code)
	}
	for want, in := range bad() {
		if states, code := serial.Train(in); len(states) != 0 || code != want {
			t.Error(want, code)
		}
	}
}

// TestIndependent covers P14.5.
func TestIndependent(t *testing.T) {
	want := trajectory(t, input())
	for i, f := range []func(c *api.Config){
		func(c *api.Config) { c.Workers = 1 }, func(c *api.Config) { c.Workers = 4 }, func(c *api.Config) { c.Micros = 1 }, func(c *api.Config) { c.Micros = 100 }, func(c *api.Config) { c.Bucket = 1 },
		func(c *api.Config) { c.Chunk = 1 }, func(c *api.Config) { c.Window = 1 }, func(c *api.Config) { c.Capacity = 1 },
	} {
		in := input()
		f(&in.Config)
		if states, code := serial.Train(in); code != api.OK || !same(states, want) {
			t.Error(i, code)
		}
	}
	r := made(t, input())
	whole, _ := r.Gradient(0, 1, 2, 3, 4)
	turned, _ := r.Gradient(3, 1, 4, 0, 2)
	first, _ := r.Gradient(2, 0)
	second, _ := r.Gradient(1, 3, 4)
	parts, _ := vec.Sum(first, second)
	if !whole.Same(turned) || !whole.Same(parts) {
		t.Error(whole, turned, parts)
	}
}

// TestNil: on a nil Run, all methods return zero values.
func TestNil(t *testing.T) {
	var r *serial.Run
	if s := r.State(); r.Step() || r.Steps() != 0 || len(s.P) != 0 || len(s.M) != 0 {
		t.Error(s)
	}
	if g, ok := r.Gradient(); len(g) != 0 || ok {
		t.Error(g, ok)
	}
	if loss, ok := r.Loss(); loss != 0 || ok {
		t.Error(loss, ok)
	}
}
