package train_test

import (
	"slices"
	"testing"

	"sakia/api"
	"sakia/bound"
	"sakia/conf"
	"sakia/crew"
	"sakia/plan"
	"sakia/sched"
	"sakia/serial"
	"sakia/sgd"
	"sakia/tag"
	"sakia/train"
)

// source yields numbers that look random, and are the same in each run.
type source uint64

func (r *source) Uint64() uint64 {
	*r = *r*6364136223846793005 + 1442695040888963407
	x := uint64(*r)
	return (x ^ x>>29) * 0xbf58476d1ce4e5b9
}

func (r *source) Int63() int64 {
	return int64(r.Uint64() >> 1)
}

func (r *source) Intn(n int) int {
	return int(r.Uint64() >> 33 % uint64(n))
}

func starting(n uint64) *source {
	r := source(n)
	return &r
}

// random returns a right input.
func random(r *source) api.Input {
	sizes := []int{1 + r.Intn(3)}
	for range 1 + r.Intn(3) {
		sizes = append(sizes, 1+r.Intn(4))
	}
	workers := 1 + r.Intn(6)
	shift := 1 + r.Intn(62)
	number := func() int64 { return r.Int63() >> (r.Intn(62)) * int64(1-2*r.Intn(2)) }
	in := api.Input{Config: api.Config{
		Sizes: sizes, Shift: shift, Rate: number(), Momentum: number(), Workers: workers, Batch: workers + r.Intn(8), Micros: 1 + r.Intn(4), Steps: r.Intn(5),
		Bucket: 1 + r.Intn(12), Chunk: 1 + r.Intn(4), Window: 1 + r.Intn(4), Capacity: 1 + r.Intn(3),
	}}
	list := func(n int) []int64 {
		var l []int64
		for range n {
			l = append(l, number())
		}
		return l
	}
	for range in.Config.Batch + r.Intn(10) {
		in.Data = append(in.Data, api.Example{X: list(sizes[0]), Y: list(sizes[len(sizes)-1])})
	}
	params := 0
	for k := range sizes[1:] {
		params += (sizes[k] + 1) * sizes[k+1]
	}
	in.Start = list(params)
	for range conf.Need(in.Config, len(in.Data)) {
		in.Draws = append(in.Draws, r.Uint64())
	}
	return in
}

func sameStates(a, b []sgd.State) bool {
	return slices.EqualFunc(a, b, sgd.Same)
}

// TestPromises covers P3, P4, P5 and P7 for many inputs and lists of picks.
func TestPromises(t *testing.T) {
	r := starting(1)
	for i := range 150 {
		in := random(r)
		want, code := serial.Train(in)
		x, also := sched.New(in)
		if code != api.OK || also != api.OK {
			t.Fatal(i, in.Config, code, also)
		}
		effective := 0
		for !x.Done() {
			enabled := x.Enabled()
			if len(enabled) == 0 {
				t.Fatal(i, in.Config, "nobody can go on")
			}
			w := r.Intn(in.Config.Workers+2) - 1
			if r.Intn(3) == 0 {
				w = enabled[len(enabled)-1]
			}
			before := x.Count()
			if x.Pick(w) != slices.Contains(enabled, w) {
				t.Fatal(i, in.Config, w, enabled)
			}
			effective += x.Count() - before
			for w := range in.Config.Workers {
				l, peak := x.Link(w)
				if peak > in.Config.Capacity || len(x.Open(w)) > in.Config.Window || !slices.IsSortedFunc(l, func(a, b api.Message) int { return a.Tag.Step - b.Tag.Step }) {
					t.Fatal(i, in.Config, w)
				}
				for _, m := range l {
					if !tag.Right(m.Tag) {
						t.Fatal(i, in.Config, m)
					}
				}
			}
		}
		for w := range in.Config.Workers {
			if !sameStates(x.Trajectory(w), want) {
				t.Fatal(i, in.Config, w)
			}
		}
		if effective != bound.Steps(in.Config, len(in.Start)) {
			t.Fatal(i, in.Config, effective)
		}
		checkModes(t, r, in)
	}
}

// checkModes compares the modes, and other numbers of workers, for an input.
func checkModes(t *testing.T, r *source, in api.Input) {
	t.Helper()
	want := report(t, in)
	for mode := train.Serial; mode <= train.Crew; mode++ {
		if got, code := train.Run(in, mode); code != api.OK || !train.Same(got, want) {
			t.Fatal(in.Config, mode, code)
		}
	}
	in.Config.Workers, in.Config.Micros, in.Config.Bucket = 1+r.Intn(in.Config.Batch), 1+r.Intn(5), 1+r.Intn(30)
	in.Config.Chunk, in.Config.Window, in.Config.Capacity = 1+r.Intn(9), 1+r.Intn(9), 1+r.Intn(9)
	if got, code := train.Run(in, train.Turns); code != api.OK || !train.Same(got, want) {
		t.Fatal(in.Config, code)
	}
	turns := bound.Turns(in.Config.Workers, bound.Picks(in.Config, len(in.Start)))
	if got, code := bound.Progress(in, turns...); code != api.OK || !got.Done || got.Left != 0 {
		t.Fatal(in.Config, got, code)
	}
}

// TestWrongInputs covers P1 and P6: an input with any numbers has the same code everywhere.
func TestWrongInputs(t *testing.T) {
	r := starting(2)
	extremes := []int{low, low + 1, -1, 0, 1, 2, 3, 62, 63, 64, 65, api.MaxSize, api.MaxSize + 1, 1 << 40, top - 1, top}
	for i := range 3000 {
		in := random(r)
		c := &in.Config
		for range 1 + r.Intn(3) {
			fields := []*int{&c.Shift, &c.Workers, &c.Batch, &c.Micros, &c.Steps, &c.Bucket, &c.Chunk, &c.Window, &c.Capacity, &c.Sizes[r.Intn(len(c.Sizes))]}
			*fields[r.Intn(len(fields))] = extremes[r.Intn(len(extremes))]
		}
		want := conf.Input(in)
		if want == api.OK {
			continue
		}
		_, first := serial.New(in)
		_, second := sched.New(in)
		_, third := crew.Run(in)
		_, fourth := train.Run(in, r.Intn(5))
		_, fifth := bound.Progress(in, 0, 1)
		if first != want || second != want || third != want || fourth != want || fifth != want {
			t.Fatal(i, in.Config, want, first, second, third, fourth, fifth)
		}
		p, ok := plan.New(in.Config, len(in.Start))
		if ok != (conf.Check(in.Config) == api.OK) || p.Total() != bound.Steps(in.Config, len(in.Start)) {
			t.Fatal(i, in.Config, ok)
		}
	}
}
