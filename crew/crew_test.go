package crew_test

import (
	"math"
	"slices"
	"testing"

	"sakia/api"
	"sakia/crew"
	"sakia/plan"
	"sakia/serial"
	"sakia/sgd"
	"sakia/vec"
)

const (
	top = math.MaxInt
	low = math.MinInt
)

// filled returns numbers of both signs below a bound.
func filled(n int, seed, bound uint64) []int64 {
	v := make([]int64, n)
	for i := range v {
		seed = seed*6364136223846793005 + 1442695040888963407
		v[i] = int64(seed>>33%bound) - int64(bound/2)
	}
	return v
}

// input returns a right input with 17 parameters and 70 examples.
func input() api.Input {
	in := api.Input{
		Config: api.Config{Sizes: []int{2, 3, 2}, Shift: 8, Rate: 2, Momentum: 100, Workers: 3, Batch: 64, Micros: 2, Steps: 3, Bucket: 6, Chunk: 2, Window: 2, Capacity: 2},
		Start:  filled(17, 1, 500),
	}
	for i := range 70 {
		in.Data = append(in.Data, api.Example{X: filled(2, uint64(i)+10, 600), Y: filled(2, uint64(i)+20, 600)})
	}
	for _, x := range filled(3*69, 5, 1<<30) {
		in.Draws = append(in.Draws, uint64(x))
	}
	return in
}

// inputs returns inputs of many kinds.
func inputs() []api.Input {
	var l []api.Input
	for _, f := range []func(c *api.Config){
		func(c *api.Config) {},
		func(c *api.Config) { c.Workers = 1 },
		func(c *api.Config) { c.Workers, c.Capacity, c.Window, c.Chunk = 2, 1, 1, 1 },
		func(c *api.Config) { c.Workers, c.Micros, c.Bucket = 4, 5, 100 },
		func(c *api.Config) { c.Workers, c.Window, c.Capacity, c.Bucket = 4, 100, 1, 1 },
		func(c *api.Config) { c.Workers, c.Capacity, c.Bucket = 64, 1, 5 },
		func(c *api.Config) { c.Workers, c.Capacity, c.Bucket = 64, api.MaxSize, 5 },
		func(c *api.Config) { c.Steps = 1 },
		func(c *api.Config) { c.Steps = 0 },
		func(c *api.Config) { c.Steps, c.Workers = 0, 1 },
	} {
		in := input()
		f(&in.Config)
		l = append(l, in)
	}
	return l
}

func sameStates(a, b []sgd.State) bool {
	return slices.EqualFunc(a, b, sgd.Same)
}

// sends returns the number of messages of a worker by the plan.
func sends(in api.Input, w int) int {
	p, _ := plan.New(in.Config, len(in.Start))
	count := 0
	for step := range in.Config.Steps {
		for _, x := range p.Step(w, step) {
			if x.Kind == plan.Send {
				count++
			}
		}
	}
	return count
}

// TestRun covers P24.1, P24.3 and P24.4.
func TestRun(t *testing.T) {
	for i, in := range inputs() {
		want, _ := serial.Train(in)
		p, _ := plan.New(in.Config, len(in.Start))
		var counts []int
		for w := range in.Config.Workers {
			n := sends(in, w)
			if got := crew.Messages(in.Config, 17, w); got != n {
				t.Fatal(i, w, got, n)
			}
			counts = append(counts, n)
		}
		for range 3 {
			r, code := crew.Run(in)
			if code != api.OK || len(r.Trajectories) != in.Config.Workers || !slices.Equal(r.Sent, counts) || r.Items != p.Total() || !r.Agree() {
				t.Fatal(i, code, len(r.Trajectories), r.Sent, r.Items)
			}
			for w := range in.Config.Workers {
				if !sameStates(r.Trajectories[w], want) {
					t.Fatal(i, w, "another trajectory")
				}
				if s, ok := r.Last(w); !ok || !sgd.Same(s, want[len(want)-1]) {
					t.Fatal(i, w, s, ok)
				}
			}
		}
	}
}

// TestRunRefuses covers the codes of P24.1.
func TestRunRefuses(t *testing.T) {
	for want, f := range map[api.Code]func(in *api.Input){
		api.ErrWorkers: func(in *api.Input) { in.Config.Workers = 0 },
		api.ErrShift:   func(in *api.Input) { in.Config.Shift = 0 },
		api.ErrShape:   func(in *api.Input) { in.Start = nil },
		api.ErrLong:    func(in *api.Input) { in.Config.Sizes = []int{2, 1 << 20, 2} },
		api.ErrRange:   func(in *api.Input) { in.Config.Capacity = 0 },
		api.ErrBatch:   func(in *api.Input) { in.Data = in.Data[:63] },
		api.ErrDraws:   func(in *api.Input) { in.Draws = in.Draws[:3*69-1] },
	} {
		in := input()
		f(&in)
		if r, code := crew.Run(in); code != want || len(r.Trajectories) != 0 || len(r.Sent) != 0 || r.Items != 0 {
			t.Error(want, code, r)
		}
	}
	for _, workers := range []int{low, -1, 65, top} {
		in := input()
		in.Config.Workers = workers
		if r, code := crew.Run(in); code != api.ErrWorkers || len(r.Trajectories) != 0 {
			t.Error(workers, code)
		}
	}
}

// TestKeepsInput: a run does not change its input.
func TestKeepsInput(t *testing.T) {
	in, before := input(), input()
	crew.Run(in)
	same := slices.Equal(in.Start, before.Start) && slices.Equal(in.Draws, before.Draws) && slices.Equal(in.Config.Sizes, before.Config.Sizes)
	for i, e := range in.Data {
		same = same && slices.Equal(e.X, before.Data[i].X) && slices.Equal(e.Y, before.Data[i].Y)
	}
	if !same {
		t.Error("the input has changed")
	}
}

func state(p, m int64) sgd.State {
	return sgd.State{P: vec.Vector{p}, M: vec.Vector{m}}
}

// TestAgree covers the Agree of P24.2.
func TestAgree(t *testing.T) {
	a, b, c := state(1, 2), state(1, 3), state(2, 2)
	for i, x := range []struct {
		l    [][]sgd.State
		want bool
	}{
		{nil, true},
		{[][]sgd.State{{}}, true},
		{[][]sgd.State{nil, {}}, true},
		{[][]sgd.State{{a, b}}, true},
		{[][]sgd.State{{a, b}, {a, b}, {a, b}}, true},
		{[][]sgd.State{{a, b}, {a, c}}, false},
		{[][]sgd.State{{a, b}, {b, b}}, false},
		{[][]sgd.State{{a, b}, {a, b}, {a}}, false},
		{[][]sgd.State{{a}, {a, a}}, false},
		{[][]sgd.State{{a}, nil}, false},
		{[][]sgd.State{nil, {a}}, false},
		{[][]sgd.State{{a}, {a}, {c}, {a}}, false},
		{[][]sgd.State{{a}, {{P: vec.Vector{1}}}}, false},
	} {
		if got := (crew.Report{Trajectories: x.l}).Agree(); got != x.want {
			t.Error(i, got)
		}
	}
}

// TestLast covers the Last of P24.2.
func TestLast(t *testing.T) {
	a, b := state(1, 2), state(3, 4)
	r := crew.Report{Trajectories: [][]sgd.State{{a, b}, nil, {a}}}
	for w, want := range map[int]sgd.State{0: b, 2: a} {
		if s, ok := r.Last(w); !ok || !sgd.Same(s, want) {
			t.Error(w, s, ok)
		}
	}
	for _, w := range []int{low, -1, 1, 3, top} {
		if s, ok := r.Last(w); ok || len(s.P) != 0 || len(s.M) != 0 {
			t.Error(w, s, ok)
		}
	}
	if s, ok := (crew.Report{}).Last(0); ok || len(s.P) != 0 {
		t.Error(s, ok)
	}
	s, _ := r.Last(0)
	s.P[0], s.M[0] = 9, 9
	if r.Trajectories[0][1].P[0] != 3 || r.Trajectories[0][1].M[0] != 4 {
		t.Error(r)
	}
}

// TestMessages covers the failures of P24.3.
func TestMessages(t *testing.T) {
	c := input().Config
	for _, w := range []int{low, -1, 3, top} {
		if n := crew.Messages(c, 17, w); n != 0 {
			t.Error(w, n)
		}
	}
	for _, params := range []int{low, -1, 0, api.MaxSize + 1, top} {
		if n := crew.Messages(c, params, 0); n != 0 {
			t.Error(params, n)
		}
	}
	for i, f := range []func(c *api.Config){func(c *api.Config) { c.Workers = 65 }, func(c *api.Config) { c.Steps = -1 }, func(c *api.Config) { c.Chunk = 0 }, func(c *api.Config) { c.Batch = 0 }, func(c *api.Config) { c.Sizes = nil }} {
		wrong := c
		f(&wrong)
		if n := crew.Messages(wrong, 17, 0); n != 0 {
			t.Error(i, n)
		}
	}
	one := c
	one.Workers = 1
	if n := crew.Messages(one, 17, 0); n != 0 {
		t.Error(n)
	}
	// 3 workers, each of which sends two of three segments in each phase: of the buckets with 5, 6 and 6 parameters, the segments have 2, 2 and 1, and 2, 2 and 2.
	if n := crew.Messages(c, 17, 0); n != 3*3*4 {
		t.Error(n)
	}
}
