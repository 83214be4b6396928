package plan_test

import (
	"math"
	"slices"
	"testing"

	"sakia/api"
	"sakia/bucket"
	"sakia/part"
	"sakia/plan"
	"sakia/ring"
)

const (
	top = math.MaxInt
	low = math.MinInt
)

// config returns a right configuration.
func config(workers, micros, steps, size, chunk, window int) api.Config {
	return api.Config{Sizes: []int{1, 1}, Shift: 8, Workers: workers, Batch: workers, Micros: micros, Steps: steps, Bucket: size, Chunk: chunk, Window: window, Capacity: 1}
}

func made(t *testing.T, c api.Config, params int) *plan.Plan {
	t.Helper()
	p, ok := plan.New(c, params)
	if p == nil || !ok {
		t.Fatal(c, params)
	}
	return p
}

// items is the definition of the items of a worker in a step.
func items(c api.Config, params, w, step int) []plan.Item {
	var l []plan.Item
	add := func(kind, n int) {
		l = append(l, plan.Item{Kind: kind, Step: step, N: n})
	}
	for a := range c.Micros {
		add(plan.Compute, a)
	}
	buckets := bucket.Buckets(params, c.Bucket)
	for _, g := range bucket.Groups(len(buckets), c.Window) {
		for j := g.Lo; j < g.Hi; j++ {
			add(plan.Launch, j)
		}
		for phase := range 2 {
			for round := range c.Workers - 1 {
				for j := g.Lo; j < g.Hi; j++ {
					job := ring.Job{Step: step, Bucket: j, At: buckets[j], Workers: c.Workers, Chunk: c.Chunk}
					for _, a := range job.Round(w, phase, round) {
						kind := plan.Receive
						if a.Send {
							kind = plan.Send
						}
						l = append(l, plan.Item{Kind: kind, Step: step, Action: a})
					}
				}
			}
		}
		for j := g.Lo; j < g.Hi; j++ {
			add(plan.Update, j)
		}
	}
	add(plan.Record, 0)
	return l
}

// each calls f for configurations of many kinds.
func each(f func(c api.Config, params int)) {
	for _, workers := range []int{1, 2, 3, 5, 8} {
		for _, params := range []int{1, 2, 7, 13, 30} {
			for _, size := range []int{1, 4, 13, 100} {
				for _, window := range []int{1, 2, 3, api.MaxSize} {
					f(config(workers, 1+params%3, 2, size, 1+window%4, window), params)
				}
			}
		}
	}
}

// TestKinds: the numbers of the kinds are given.
func TestKinds(t *testing.T) {
	if l := []int{plan.Compute, plan.Launch, plan.Send, plan.Receive, plan.Update, plan.Record}; !slices.Equal(l, []int{1, 2, 3, 4, 5, 6}) {
		t.Error(l)
	}
}

// TestNew covers P20.1.
func TestNew(t *testing.T) {
	right := config(2, 1, 3, 4, 2, 2)
	for _, n := range []int{1, 2, 100, api.MaxSize} {
		p := made(t, right, n)
		want := bucket.Buckets(n, 4)
		if l := p.Buckets(); !slices.Equal(l, want) {
			t.Error(n)
		}
		p.Buckets()[0] = part.Range{}
		if l := p.Buckets(); !slices.Equal(l, want) {
			t.Error(n)
		}
	}
	for _, n := range []int{0, -1, low, api.MaxSize + 1, top} {
		if p, ok := plan.New(right, n); p != nil || ok {
			t.Error(n, ok)
		}
	}
	for i, f := range []func(c *api.Config){
		func(c *api.Config) { c.Workers = 0 }, func(c *api.Config) { c.Workers = 65 }, func(c *api.Config) { c.Shift = 0 }, func(c *api.Config) { c.Sizes = nil }, func(c *api.Config) { c.Batch = 1 },
		func(c *api.Config) { c.Micros = 0 }, func(c *api.Config) { c.Steps = -1 }, func(c *api.Config) { c.Bucket = 0 }, func(c *api.Config) { c.Chunk = 0 }, func(c *api.Config) { c.Window = 0 }, func(c *api.Config) { c.Capacity = 0 },
	} {
		c := right
		f(&c)
		if p, ok := plan.New(c, 10); p != nil || ok {
			t.Error(i, ok)
		}
	}
	if p, ok := plan.New(api.Config{}, 10); p != nil || ok {
		t.Error(ok)
	}
}

// TestExample is the example of the chapter.
func TestExample(t *testing.T) {
	p := made(t, config(1, 1, 1, 10, 1, 1), 10)
	want := []plan.Item{{Kind: plan.Compute}, {Kind: plan.Launch}, {Kind: plan.Update}, {Kind: plan.Record}}
	if l := p.Step(0, 0); !slices.Equal(l, want) {
		t.Error(l)
	}
	if p.Len(0) != 4 || p.Total() != 4 {
		t.Error(p.Len(0), p.Total())
	}
}

// TestStep covers P20.2 and P20.3.
func TestStep(t *testing.T) {
	each(func(c api.Config, params int) {
		p := made(t, c, params)
		total := 0
		for w := range c.Workers {
			var all []plan.Item
			for step := range c.Steps {
				want := items(c, params, w, step)
				if l := p.Step(w, step); !slices.Equal(l, want) || p.Len(w) != len(want) {
					t.Fatal(c, params, w, step, p.Len(w), l)
				}
				all = append(all, want...)
			}
			for i, want := range all {
				if x, ok := p.Item(w, i); x != want || !ok {
					t.Fatal(c, params, w, i, x, want)
				}
			}
			for _, i := range []int{low, -1, len(all), len(all) + 1, top} {
				if x, ok := p.Item(w, i); x != (plan.Item{}) || ok {
					t.Fatal(c, params, w, i, x)
				}
			}
			total += len(all)
		}
		if p.Total() != total {
			t.Fatal(c, params, p.Total(), total)
		}
		checkOutside(t, p, c)
	})
}

// checkOutside asks for what is not there.
func checkOutside(t *testing.T, p *plan.Plan, c api.Config) {
	t.Helper()
	for _, w := range []int{low, -1, c.Workers, top} {
		x, ok := p.Item(w, 0)
		if len(p.Step(w, 0)) != 0 || p.Len(w) != 0 || x != (plan.Item{}) || ok {
			t.Fatal(c, w)
		}
	}
	for _, step := range []int{low, -1, c.Steps, top} {
		if l := p.Step(0, step); len(l) != 0 {
			t.Fatal(c, step, l)
		}
	}
}

// TestNoSteps: without steps there are no items, but a step would have some.
func TestNoSteps(t *testing.T) {
	c := config(3, 2, 0, 4, 2, 2)
	p := made(t, c, 10)
	for w := range 3 {
		if n := len(items(c, 10, w, 0)); p.Len(w) != n {
			t.Error(w, p.Len(w), n)
		}
		if x, ok := p.Item(w, 0); x != (plan.Item{}) || ok {
			t.Error(w, x, ok)
		}
	}
	if p.Total() != 0 {
		t.Error(p.Total())
	}
	checkOutside(t, p, c)
}

// TestTotal covers P20.4.
func TestTotal(t *testing.T) {
	each(func(c api.Config, params int) {
		chunks, buckets := 0, bucket.Buckets(params, c.Bucket)
		for _, b := range buckets {
			chunks += bucket.Messages(b, c.Workers, c.Chunk)
		}
		want := c.Steps * (c.Workers*(c.Micros+2*len(buckets)+1) + 4*(c.Workers-1)*chunks)
		if got := made(t, c, params).Total(); got != want {
			t.Fatal(c, params, got, want)
		}
	})
}

// TestGreatest: the greatest numbers need no list of all items.
func TestGreatest(t *testing.T) {
	const most = api.MaxSize
	c := config(64, most, most, 1, 1, most)
	p := made(t, c, most)
	if want := most * (64*(most+2*most+1) + 4*63*most); p.Total() != want {
		t.Error(p.Total(), want)
	}
	n := p.Len(5)
	for i, want := range map[int]plan.Item{
		0:                      {Kind: plan.Compute},
		most - 1:               {Kind: plan.Compute, N: most - 1},
		most:                   {Kind: plan.Launch},
		2*most - 1:             {Kind: plan.Launch, N: most - 1},
		n - 2:                  {Kind: plan.Update, Step: 0, N: most - 1},
		n - 1:                  {Kind: plan.Record},
		n:                      {Kind: plan.Compute, Step: 1},
		n*most - 1:             {Kind: plan.Record, Step: most - 1},
		n*(most-1) + 3*most/2:  {Kind: plan.Launch, Step: most - 1, N: most / 2},
		n*(most-1) + n - 1 - 1: {Kind: plan.Update, Step: most - 1, N: most - 1},
	} {
		if x, ok := p.Item(5, i); x != want || !ok {
			t.Error(i, x, want)
		}
	}
	if x, ok := p.Item(5, n*most); x != (plan.Item{}) || ok {
		t.Error(x, ok)
	}
}

// TestNeighbours covers P20.5: what a worker sends, the next one receives.
func TestNeighbours(t *testing.T) {
	each(func(c api.Config, params int) {
		p := made(t, c, params)
		for w := range c.Workers {
			out, in := actions(p, w, plan.Send), actions(p, (w+1)%c.Workers, plan.Receive)
			if !slices.EqualFunc(out, in, func(a, b ring.Action) bool { return a.Tag == b.Tag && a.At == b.At }) {
				t.Fatal(c, params, w)
			}
		}
	})
}

// actions returns the actions of a worker in the step 1 with a kind.
func actions(p *plan.Plan, w, kind int) []ring.Action {
	var l []ring.Action
	for _, x := range p.Step(w, 1) {
		if x.Kind == kind {
			l = append(l, x.Action)
		}
	}
	return l
}

// TestWindow covers P20.5: at most Window buckets are launched and not yet updated.
func TestWindow(t *testing.T) {
	each(func(c api.Config, params int) {
		p := made(t, c, params)
		open := map[int]bool{}
		for _, x := range p.Step(0, 0) {
			switch x.Kind {
			case plan.Launch:
				open[x.N] = true
			case plan.Update:
				delete(open, x.N)
			}
			if len(open) > c.Window {
				t.Fatal(c, params, open)
			}
		}
		if len(open) > 0 {
			t.Fatal(c, params, open)
		}
	})
}

// TestNil: on a nil Plan, all methods return zero values.
func TestNil(t *testing.T) {
	var p *plan.Plan
	x, ok := p.Item(0, 0)
	if len(p.Buckets()) != 0 || len(p.Step(0, 0)) != 0 || p.Len(0) != 0 || p.Total() != 0 || x != (plan.Item{}) || ok {
		t.Error(x, ok)
	}
}
