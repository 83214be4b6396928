package sched_test

import (
	"math"
	"slices"
	"testing"

	"sakia/api"
	"sakia/link"
	"sakia/machine"
	"sakia/plan"
	"sakia/sched"
	"sakia/serial"
	"sakia/sgd"
	"sakia/tag"
)

const (
	top = math.MaxInt
	low = math.MinInt
)

// filled returns numbers of both signs below a bound.
func filled(n int, seed, bound uint64) []int64 {
	v := make([]int64, n)
	for i := range v {
		seed = seed*6364136223846793005 + 1442695040888963407
		v[i] = int64(seed>>33%bound) - int64(bound/2)
	}
	return v
}

// input returns a right input with 17 parameters and 9 examples.
func input() api.Input {
	in := api.Input{
		Config: api.Config{Sizes: []int{2, 3, 2}, Shift: 8, Rate: 20, Momentum: 100, Workers: 3, Batch: 4, Micros: 2, Steps: 3, Bucket: 6, Chunk: 2, Window: 2, Capacity: 2},
		Start:  filled(17, 1, 500),
	}
	for i := range 9 {
		in.Data = append(in.Data, api.Example{X: filled(2, uint64(i)+10, 600), Y: filled(2, uint64(i)+20, 600)})
	}
	for _, x := range filled(16, 5, 1<<30) {
		in.Draws = append(in.Draws, uint64(x))
	}
	return in
}

// inputs returns inputs of many kinds.
func inputs() []api.Input {
	var l []api.Input
	for _, f := range []func(c *api.Config){
		func(c *api.Config) {},
		func(c *api.Config) { c.Workers = 1 },
		func(c *api.Config) { c.Workers, c.Capacity, c.Window, c.Chunk = 2, 1, 1, 1 },
		func(c *api.Config) { c.Workers, c.Micros, c.Bucket = 4, 5, 100 },
		func(c *api.Config) { c.Workers, c.Window, c.Capacity, c.Bucket = 4, 100, 1, 1 },
		func(c *api.Config) { c.Workers, c.Window, c.Capacity, c.Bucket = 3, 2, api.MaxSize, 3 },
		func(c *api.Config) { c.Steps = 0 },
	} {
		in := input()
		f(&in.Config)
		l = append(l, in)
	}
	return l
}

func made(t *testing.T, in api.Input) *sched.World {
	t.Helper()
	x, code := sched.New(in)
	if x == nil || code != api.OK {
		t.Fatal(code)
	}
	return x
}

func sameStates(a, b []sgd.State) bool {
	return slices.EqualFunc(a, b, sgd.Same)
}

func sameMessages(a, b []api.Message) bool {
	return slices.EqualFunc(a, b, func(a, b api.Message) bool { return a.Tag == b.Tag && slices.Equal(a.Values, b.Values) })
}

// model is a world by its definition.
type model struct {
	machines []*machine.Machine
	links    []*link.Link
	count    int
}

func newModel(t *testing.T, in api.Input) *model {
	t.Helper()
	x := &model{}
	for w := range in.Config.Workers {
		m, code := machine.New(in, w)
		if code != api.OK {
			t.Fatal(code)
		}
		x.machines, x.links = append(x.machines, m), append(x.links, link.New(in.Config.Capacity))
	}
	return x
}

func (x *model) ends(w int) (in, out *link.Link) {
	return x.links[(w+len(x.links)-1)%len(x.links)], x.links[w]
}

func (x *model) pick(w int) bool {
	if w < 0 || w >= len(x.machines) {
		return false
	}
	in, out := x.ends(w)
	if !x.machines[w].Enabled(in, out) {
		return false
	}
	x.machines[w].Do(in, out)
	x.count++
	return true
}

func (x *model) done() bool {
	for _, m := range x.machines {
		if _, ok := m.Next(); ok {
			return false
		}
	}
	return true
}

// expect checks all that a world tells, and P4 and P7.
func expect(t *testing.T, x *sched.World, y *model, in api.Input) {
	t.Helper()
	var enabled []int
	for w, m := range y.machines {
		if m.Enabled(y.ends(w)) {
			enabled = append(enabled, w)
		}
		messages, peak := x.Link(w)
		if !sameMessages(messages, y.links[w].Messages()) || peak != y.links[w].Peak() || peak > in.Config.Capacity {
			t.Fatal("link", w, messages, peak)
		}
		open := x.Open(w)
		if !slices.Equal(open, m.Open()) || len(open) > in.Config.Window || !slices.IsSorted(open) {
			t.Fatal("open", w, open)
		}
		if !sameStates(x.Trajectory(w), m.Trajectory()) {
			t.Fatal("trajectory", w)
		}
		next, ok := m.Next()
		from, _ := y.ends(w)
		if first, there := from.Peek(); ok && there && next.Kind == plan.Receive && (first != next.Action.Tag || !tag.Right(first)) {
			t.Fatal("tag", w, first, next)
		}
	}
	if !slices.Equal(x.Enabled(), enabled) || x.Count() != y.count || x.Done() != y.done() {
		t.Fatal(x.Enabled(), enabled, x.Count(), y.count, x.Done())
	}
	if !x.Done() && len(enabled) == 0 {
		t.Fatal("no worker is enabled")
	}
}

// TestNew covers P22.1.
func TestNew(t *testing.T) {
	for _, in := range inputs() {
		expect(t, made(t, in), newModel(t, in), in)
	}
	for want, f := range map[api.Code]func(in *api.Input){
		api.ErrWorkers: func(in *api.Input) { in.Config.Workers = 0 },
		api.ErrShift:   func(in *api.Input) { in.Config.Shift = 0 },
		api.ErrShape:   func(in *api.Input) { in.Start = nil },
		api.ErrLong:    func(in *api.Input) { in.Config.Sizes = []int{2, 1 << 20, 2} },
		api.ErrRange:   func(in *api.Input) { in.Config.Capacity = 0 },
		api.ErrBatch:   func(in *api.Input) { in.Data = in.Data[:3] },
		api.ErrDraws:   func(in *api.Input) { in.Draws = in.Draws[:15] },
	} {
		in := input()
		f(&in)
		if x, code := sched.New(in); x != nil || code != want {
			t.Error(want, code)
		}
	}
}

// TestPick covers P22.2, P22.3 and P22.5, with many lists of picks.
func TestPick(t *testing.T) {
	for i, in := range inputs() {
		want, _ := serial.Train(in)
		p, _ := plan.New(in.Config, len(in.Start))
		for seed := range uint64(6) {
			x, y := made(t, in), newModel(t, in)
			random := seed*77 + uint64(i)
			for n := 0; !x.Done(); n++ {
				random = random*6364136223846793005 + 1442695040888963407
				w := int(random>>33%uint64(in.Config.Workers+1)) - int(random>>60&1)
				if seed%2 == 1 && random>>40%4 > 0 {
					// Some workers are far ahead of others.
					w = min(w, 1)
				}
				if seed == 5 {
					w = y.greedy()
				}
				if got, effective := x.Pick(w), y.pick(w); got != effective {
					t.Fatal(i, seed, n, w, got)
				}
				if n%17 == 0 || n < 40 {
					expect(t, x, y, in)
				}
			}
			expect(t, x, y, in)
			if x.Count() != p.Total() || len(x.Enabled()) != 0 {
				t.Fatal(i, seed, x.Count(), p.Total())
			}
			for w := range in.Config.Workers {
				if l, _ := x.Link(w); !sameStates(x.Trajectory(w), want) || len(l) != 0 || x.Pick(w) {
					t.Fatal(i, seed, w)
				}
			}
		}
	}
}

// greedy returns the last worker that is enabled.
func (x *model) greedy() int {
	for w := len(x.machines) - 1; w > 0; w-- {
		if x.machines[w].Enabled(x.ends(w)) {
			return w
		}
	}
	return 0
}

// TestRun covers the Run of P22.2.
func TestRun(t *testing.T) {
	in := input()
	x, y := made(t, in), newModel(t, in)
	if x.Run() != 0 {
		t.Error("no picks")
	}
	picks := []int{0, 0, 0, 0, 0, 0, 0, 0, 0, 0, -1, 3, low, top, 1, 2, 1, 2, 1, 2, 1, 2, 1, 2, 0, 0, 0}
	want := 0
	for _, w := range picks {
		if y.pick(w) {
			want++
		}
	}
	if got := x.Run(picks...); got != want || want == len(picks) || want == 0 {
		t.Error(got, want)
	}
	expect(t, x, y, in)
	for _, w := range []int{low, -1, 3, top} {
		if x.Pick(w) {
			t.Error(w)
		}
	}
	expect(t, x, y, in)
}

// TestNoWorker covers the failures of P22.3.
func TestNoWorker(t *testing.T) {
	x := made(t, input())
	for _, w := range []int{low, -1, 3, top} {
		l, peak := x.Link(w)
		if len(x.Trajectory(w)) != 0 || len(x.Open(w)) != 0 || len(l) != 0 || peak != 0 {
			t.Error(w)
		}
	}
}

// TestFinish covers P22.4.
func TestFinish(t *testing.T) {
	for i, in := range inputs() {
		y := newModel(t, in)
		all := 0
		for !y.done() {
			y.pick(all % in.Config.Workers)
			all++
		}
		for _, most := range []int{all, all + 1, top} {
			x := made(t, in)
			if picks, ok := x.Finish(most); picks != all || !ok {
				t.Error(i, most, picks, ok)
			}
			expect(t, x, y, in)
			if picks, ok := x.Finish(most); picks != 0 || !ok {
				t.Error(i, picks, ok)
			}
			if picks, ok := x.Finish(low); picks != 0 || !ok {
				t.Error(i, picks, ok)
			}
		}
		if all == 0 {
			continue
		}
		for _, most := range []int{low, -1, 0, 1, all / 2, all - 1} {
			x, y := made(t, in), newModel(t, in)
			for n := range max(most, 0) {
				y.pick(n % in.Config.Workers)
			}
			if picks, ok := x.Finish(most); picks != max(most, 0) || ok {
				t.Error(i, most, picks, ok)
			}
			expect(t, x, y, in)
		}
	}
}

// TestFinishAgain: each call begins with the worker 0.
func TestFinishAgain(t *testing.T) {
	in := input()
	x, y := made(t, in), newModel(t, in)
	for range 5 {
		x.Finish(2)
		y.pick(0)
		y.pick(1)
		expect(t, x, y, in)
	}
}

// TestManyWorkers: as many workers as are possible.
func TestManyWorkers(t *testing.T) {
	in := input()
	for len(in.Data) < 64 {
		in.Data = append(in.Data, in.Data[len(in.Data)%9])
	}
	in.Config.Workers, in.Config.Batch, in.Config.Steps, in.Config.Capacity = 64, 64, 2, 1
	in.Draws = make([]uint64, 126)
	want, code := serial.Train(in)
	x := made(t, in)
	if _, ok := x.Finish(top); !ok || code != api.OK {
		t.Fatal(ok, code)
	}
	for w := range 64 {
		if !sameStates(x.Trajectory(w), want) {
			t.Error(w)
		}
	}
}

// TestMemory: the input is not kept, and what is returned is a copy.
func TestMemory(t *testing.T) {
	in := input()
	want, _ := serial.Train(in)
	x := made(t, in)
	clear(in.Start)
	clear(in.Draws)
	for i := range in.Data {
		clear(in.Data[i].X)
		clear(in.Data[i].Y)
	}
	clear(in.Config.Sizes)
	for n := 0; !x.Done(); n++ {
		x.Pick(n % 3)
		messages, _ := x.Link(n % 3)
		for _, m := range messages {
			clear(m.Values)
		}
		for _, s := range x.Trajectory(n % 3) {
			clear(s.P)
			clear(s.M)
		}
	}
	for w := range 3 {
		if !sameStates(x.Trajectory(w), want) {
			t.Error(w)
		}
	}
}

// TestNil: on a nil World, all methods return zero values, but Done returns true, and Finish 0 and true.
func TestNil(t *testing.T) {
	var x *sched.World
	l, peak := x.Link(0)
	if x.Pick(0) || x.Run(0, 1) != 0 || len(x.Enabled()) != 0 || !x.Done() || x.Count() != 0 || len(x.Trajectory(0)) != 0 || len(x.Open(0)) != 0 || len(l) != 0 || peak != 0 {
		t.Error("values")
	}
	for _, most := range []int{low, 0, 10, top} {
		if picks, ok := x.Finish(most); picks != 0 || !ok {
			t.Error(picks, ok)
		}
	}
}
