package machine_test

import (
	"math"
	"slices"
	"testing"

	"sakia/api"
	"sakia/bucket"
	"sakia/link"
	"sakia/machine"
	"sakia/plan"
	"sakia/sampler"
	"sakia/serial"
	"sakia/sgd"
	"sakia/vec"
)

const (
	top = math.MaxInt
	low = math.MinInt
)

// filled returns numbers of both signs below a bound.
func filled(n int, seed, bound uint64) []int64 {
	v := make([]int64, n)
	for i := range v {
		seed = seed*6364136223846793005 + 1442695040888963407
		v[i] = int64(seed>>33%bound) - int64(bound/2)
	}
	return v
}

// input returns a right input with 17 parameters and 9 examples.
func input() api.Input {
	in := api.Input{
		Config: api.Config{Sizes: []int{2, 3, 2}, Shift: 8, Rate: 20, Momentum: 100, Workers: 3, Batch: 4, Micros: 2, Steps: 3, Bucket: 6, Chunk: 2, Window: 2, Capacity: 2},
		Start:  filled(17, 1, 500),
	}
	for i := range 9 {
		in.Data = append(in.Data, api.Example{X: filled(2, uint64(i)+10, 600), Y: filled(2, uint64(i)+20, 600)})
	}
	for _, x := range filled(16, 5, 1<<30) {
		in.Draws = append(in.Draws, uint64(x))
	}
	return in
}

func made(t *testing.T, in api.Input, w int) *machine.Machine {
	t.Helper()
	m, code := machine.New(in, w)
	if m == nil || code != api.OK {
		t.Fatal(w, code)
	}
	return m
}

func sameStates(a, b []sgd.State) bool {
	return slices.EqualFunc(a, b, sgd.Same)
}

// model is a machine by its definition.
type model struct {
	in         api.Input
	w          int
	plan       *plan.Plan
	batches    *sampler.Sampler
	state      sgd.State
	gradient   vec.Vector
	trajectory []sgd.State
	count      int
	open       []int
}

func newModel(t *testing.T, in api.Input, w int) *model {
	t.Helper()
	p, ok := plan.New(in.Config, len(in.Start))
	batches, code := sampler.New(len(in.Data), in.Config.Batch, in.Config.Steps, in.Draws...)
	if !ok || code != api.OK {
		t.Fatal(ok, code)
	}
	s := sgd.Start(in.Start)
	return &model{in, w, p, batches, s, make(vec.Vector, len(in.Start)), []sgd.State{sgd.Clone(s)}, 0, nil}
}

// compute returns the gradient of some examples with the parameters of the state.
func (x *model) compute(indices []int) vec.Vector {
	in := x.in
	in.Start = x.state.P
	r, _ := serial.New(in)
	g, _ := r.Gradient(indices...)
	return g
}

// do does an item, with what was received for it.
func (x *model) do(i plan.Item, values []int64) {
	c, at := x.in.Config, i.Action.At
	x.count++
	switch i.Kind {
	case plan.Compute:
		x.gradient.Add(x.compute(x.batches.Micro(i.Step, x.w, c.Workers, i.N, c.Micros)))
	case plan.Launch:
		x.open = append(x.open, i.N)
	case plan.Receive:
		for k, v := range values {
			if i.Action.Add {
				v += x.gradient[at.Lo+k]
			}
			x.gradient[at.Lo+k] = v
		}
	case plan.Update:
		b := bucket.Buckets(len(x.in.Start), c.Bucket)[i.N]
		sgd.Rule{Rate: c.Rate, Momentum: c.Momentum, Shift: c.Shift}.Apply(x.state, b, x.gradient[b.Lo:b.Hi])
		x.open = slices.DeleteFunc(x.open, func(j int) bool { return j == i.N })
	case plan.Record:
		x.trajectory = append(x.trajectory, sgd.Clone(x.state))
		clear(x.gradient)
	}
}

// expect checks all that a machine tells.
func expect(t *testing.T, m *machine.Machine, x *model) {
	t.Helper()
	next, ok := m.Next()
	want, there := x.plan.Item(x.w, x.count)
	if next != want || ok != there {
		t.Fatal("next", x.w, x.count, next, want)
	}
	if !sgd.Same(m.State(), x.state) || !m.Gradient().Same(x.gradient) || !sameStates(m.Trajectory(), x.trajectory) {
		t.Fatal("state", x.w, x.count)
	}
	slices.Sort(x.open)
	if m.Count() != x.count || !slices.Equal(m.Open(), x.open) {
		t.Fatal("count", x.w, x.count, m.Count(), m.Open(), x.open)
	}
}

// TestNew covers P21.1.
func TestNew(t *testing.T) {
	in := input()
	for w := range 3 {
		expect(t, made(t, in, w), newModel(t, in, w))
	}
	for _, w := range []int{low, -1, 3, 4, top} {
		if m, code := machine.New(in, w); m != nil || code != api.ErrRange {
			t.Error(w, code)
		}
	}
	for want, f := range map[api.Code]func(in *api.Input){
		api.ErrWorkers: func(in *api.Input) { in.Config.Workers = 0 },
		api.ErrShift:   func(in *api.Input) { in.Config.Shift = 0 },
		api.ErrShape:   func(in *api.Input) { in.Start = nil },
		api.ErrLong:    func(in *api.Input) { in.Config.Sizes = []int{2, 1 << 20, 2} },
		api.ErrRange:   func(in *api.Input) { in.Config.Window = 0 },
		api.ErrBatch:   func(in *api.Input) { in.Data = in.Data[:3] },
		api.ErrDraws:   func(in *api.Input) { in.Draws = in.Draws[:15] },
	} {
		in := input()
		f(&in)
		for _, w := range []int{0, -1, 100} {
			if m, code := machine.New(in, w); m != nil || code != want {
				t.Error(w, want, code)
			}
		}
	}
}

// TestDo covers P21.2 to P21.4: all machines of a run, compared after each item with their definitions.
func TestDo(t *testing.T) {
	for _, f := range []func(c *api.Config){
		func(c *api.Config) {},
		func(c *api.Config) { c.Workers = 1 },
		func(c *api.Config) { c.Workers, c.Capacity, c.Window = 2, 1, 1 },
		func(c *api.Config) { c.Workers, c.Micros, c.Bucket = 4, 5, 100 },
		func(c *api.Config) { c.Window, c.Capacity, c.Bucket = 100, 100, 1 },
		func(c *api.Config) { c.Steps = 0 },
	} {
		in := input()
		f(&in.Config)
		checkRun(t, in)
	}
}

// checkRun lets all machines do their items in turn.
func checkRun(t *testing.T, in api.Input) {
	t.Helper()
	workers := in.Config.Workers
	var machines []*machine.Machine
	var models []*model
	var links []*link.Link
	for w := range workers {
		machines, models = append(machines, made(t, in, w)), append(models, newModel(t, in, w))
		links = append(links, link.New(in.Config.Capacity))
	}
	for done := false; !done; {
		done = true
		for w, m := range machines {
			from, to := links[(w+workers-1)%workers], links[w]
			if checkDo(t, m, models[w], from, to) {
				done = false
			}
		}
	}
	want, _ := serial.Train(in)
	for w, m := range machines {
		if _, ok := m.Next(); ok || !sameStates(m.Trajectory(), want) {
			t.Fatal(w, "another trajectory")
		}
		if code := m.Do(links[0], links[0]); code != api.ErrState || m.Enabled(links[0], links[0]) {
			t.Fatal(w, code)
		}
		expect(t, m, models[w])
	}
}

// checkDo lets a machine do an item, if it can, and reports whether it did.
func checkDo(t *testing.T, m *machine.Machine, x *model, in, out *link.Link) bool {
	t.Helper()
	next, ok := m.Next()
	if !ok {
		return false
	}
	want := api.OK
	var values []int64
	before, sent := in.Messages(), out.Messages()
	switch {
	case next.Kind == plan.Send && out.Len() == out.Cap():
		want = api.ErrFull
	case next.Kind == plan.Receive && in.Len() == 0:
		want = api.ErrEmpty
	case next.Kind == plan.Receive:
		values = before[0].Values
	}
	if m.Enabled(in, out) != (want == api.OK) || in.Len() != len(before) || out.Len() != len(sent) {
		t.Fatal("enabled", x.w, x.count)
	}
	expect(t, m, x)
	if code := m.Do(in, out); code != want {
		t.Fatal("do", x.w, x.count, code)
	}
	if want != api.OK {
		expect(t, m, x)
		return false
	}
	if next.Kind == plan.Send {
		at := next.Action.At
		after := out.Messages()
		last := after[len(after)-1]
		if len(after) != len(sent)+1 || last.Tag != next.Action.Tag || !slices.Equal(last.Values, x.gradient[at.Lo:at.Hi]) {
			t.Fatal("send", x.w, x.count, after)
		}
	}
	x.do(next, values)
	expect(t, m, x)
	return true
}

// until lets a machine do items until the next one has a kind.
func until(t *testing.T, m *machine.Machine, kind int, in, out *link.Link) plan.Item {
	t.Helper()
	for {
		x, ok := m.Next()
		if !ok {
			t.Fatal("no such item")
		}
		if x.Kind == kind {
			return x
		}
		if code := m.Do(in, out); code != api.OK {
			t.Fatal(code)
		}
	}
}

// TestBlocked covers the codes of links in P21.2, and P21.3.
func TestBlocked(t *testing.T) {
	in := input()
	m, x := made(t, in, 1), newModel(t, in, 1)
	from, to := link.New(1), link.New(1)
	first := until(t, m, plan.Send, nil, nil)
	for i := 0; ; i++ {
		item, _ := x.plan.Item(1, i)
		if item == first {
			break
		}
		x.do(item, nil)
	}
	blocked := func(want api.Code, in, out *link.Link) {
		t.Helper()
		if m.Enabled(in, out) {
			t.Error("enabled")
		}
		if code := m.Do(in, out); code != want {
			t.Error(code)
		}
		expect(t, m, x)
	}
	blocked(api.ErrNil, from, nil)
	to.Send(api.Message{})
	blocked(api.ErrFull, from, to)
	to.Receive(api.Tag{})
	if !m.Enabled(nil, to) || m.Do(nil, to) != api.OK {
		t.Error("send")
	}
	x.do(first, nil)
	next, _ := m.Next()
	if next.Kind != plan.Receive {
		t.Fatal(next)
	}
	blocked(api.ErrNil, nil, to)
	blocked(api.ErrEmpty, from, to)
	other := next.Action.Tag
	other.Chunk++
	from.Send(api.Message{Tag: other, Values: []int64{1, 2}})
	blocked(api.ErrTag, from, to)
	if from.Len() != 1 {
		t.Error("the message has gone")
	}
}

// TestMemory: what is returned is a copy, and the input is not kept.
func TestMemory(t *testing.T) {
	in := input()
	in.Config.Workers = 1
	want, _ := serial.Train(in)
	m := made(t, in, 0)
	clear(in.Start)
	clear(in.Draws)
	for i := range in.Data {
		clear(in.Data[i].X)
		clear(in.Data[i].Y)
	}
	clear(in.Data)
	clear(in.Config.Sizes)
	for m.Enabled(nil, nil) {
		m.Do(nil, nil)
		s := m.State()
		clear(s.P)
		clear(s.M)
		clear(m.Gradient())
		for _, s := range m.Trajectory() {
			clear(s.P)
			clear(s.M)
		}
		open := m.Open()
		for i := range open {
			open[i] = 99
		}
	}
	if !sameStates(m.Trajectory(), want) || len(m.Open()) != 0 {
		t.Error(m.Trajectory())
	}
}

// TestSerial covers P21.5.
func TestSerial(t *testing.T) {
	for _, steps := range []int{0, 1, 3} {
		in := input()
		in.Config.Workers, in.Config.Steps = 1, steps
		want, _ := serial.Train(in)
		m := made(t, in, 0)
		for {
			x, ok := m.Next()
			if !ok {
				break
			}
			if x.Kind == plan.Compute && x.N == 0 && !m.Gradient().Same(make(vec.Vector, 17)) {
				t.Error(m.Gradient())
			}
			if code := m.Do(nil, nil); code != api.OK {
				t.Fatal(code)
			}
		}
		if !sameStates(m.Trajectory(), want) || !sgd.Same(m.State(), want[steps]) {
			t.Error(steps)
		}
		if code := m.Do(nil, nil); code != api.ErrState {
			t.Error(code)
		}
	}
}

// TestManyMicros: most of very many micro-batches have no examples.
func TestManyMicros(t *testing.T) {
	in := input()
	in.Config.Workers, in.Config.Steps, in.Config.Micros = 1, 1, 1<<18
	want, _ := serial.Train(in)
	m := made(t, in, 0)
	for m.Do(nil, nil) == api.OK {
	}
	if !sameStates(m.Trajectory(), want) {
		t.Error(m.Trajectory())
	}
}

// TestNil: on a nil Machine, Do returns api.ErrNil, and all other methods return zero values.
func TestNil(t *testing.T) {
	var m *machine.Machine
	if code := m.Do(nil, nil); code != api.ErrNil {
		t.Error(code)
	}
	x, ok := m.Next()
	s := m.State()
	if x != (plan.Item{}) || ok || m.Enabled(link.New(1), link.New(1)) || len(s.P) != 0 || len(s.M) != 0 || len(m.Gradient()) != 0 || len(m.Trajectory()) != 0 || m.Count() != 0 || len(m.Open()) != 0 {
		t.Error(x, ok)
	}
}
