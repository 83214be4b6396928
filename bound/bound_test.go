package bound_test

import (
	"math"
	"slices"
	"testing"

	"sakia/api"
	"sakia/bound"
	"sakia/plan"
	"sakia/sched"
)

const (
	top = math.MaxInt
	low = math.MinInt
)

// filled returns numbers of both signs below a bound.
func filled(n int, seed, bound uint64) []int64 {
	v := make([]int64, n)
	for i := range v {
		seed = seed*6364136223846793005 + 1442695040888963407
		v[i] = int64(seed>>33%bound) - int64(bound/2)
	}
	return v
}

// input returns a right input with 17 parameters and 9 examples.
func input() api.Input {
	in := api.Input{
		Config: api.Config{Sizes: []int{2, 3, 2}, Shift: 8, Rate: 20, Momentum: 100, Workers: 3, Batch: 4, Micros: 2, Steps: 3, Bucket: 6, Chunk: 2, Window: 2, Capacity: 2},
		Start:  filled(17, 1, 500),
		Draws:  make([]uint64, 16),
	}
	for i := range 9 {
		in.Data = append(in.Data, api.Example{X: filled(2, uint64(i)+10, 600), Y: filled(2, uint64(i)+20, 600)})
	}
	return in
}

// inputs returns inputs of many kinds.
func inputs() []api.Input {
	var l []api.Input
	for _, f := range []func(c *api.Config){
		func(c *api.Config) {},
		func(c *api.Config) { c.Workers = 1 },
		func(c *api.Config) { c.Workers, c.Capacity, c.Window, c.Chunk = 2, 1, 1, 1 },
		func(c *api.Config) { c.Workers, c.Window, c.Capacity, c.Bucket = 4, 100, 1, 1 },
		func(c *api.Config) { c.Steps = 0 },
	} {
		in := input()
		f(&in.Config)
		l = append(l, in)
	}
	return l
}

// TestSteps covers P23.1.
func TestSteps(t *testing.T) {
	for i, in := range inputs() {
		for _, params := range []int{1, 2, 17, 1000, api.MaxSize} {
			p, ok := plan.New(in.Config, params)
			if steps, picks := bound.Steps(in.Config, params), bound.Picks(in.Config, params); !ok || steps != p.Total() || picks != steps*in.Config.Workers {
				t.Error(i, params, steps, picks)
			}
		}
		for _, params := range []int{low, -1, 0, api.MaxSize + 1, top} {
			if steps, picks := bound.Steps(in.Config, params), bound.Picks(in.Config, params); steps != 0 || picks != 0 {
				t.Error(i, params, steps, picks)
			}
		}
	}
	for i, f := range []func(c *api.Config){
		func(c *api.Config) { c.Workers = 0 }, func(c *api.Config) { c.Workers = top }, func(c *api.Config) { c.Shift = 63 }, func(c *api.Config) { c.Sizes = nil }, func(c *api.Config) { c.Batch = 2 }, func(c *api.Config) { c.Steps = -1 }, func(c *api.Config) { c.Micros = 0 },
	} {
		in := input()
		f(&in.Config)
		if steps, picks := bound.Steps(in.Config, 17), bound.Picks(in.Config, 17); steps != 0 || picks != 0 {
			t.Error(i, steps, picks)
		}
	}
}

// fair is the definition of fair picks.
func fair(workers int, picks []int) bool {
	if workers < 1 || workers > 64 {
		return false
	}
	for i := 0; i+workers <= len(picks); i++ {
		for w := range workers {
			count := 0
			for _, p := range picks[i : i+workers] {
				if p == w {
					count++
				}
			}
			if count != 1 {
				return false
			}
		}
	}
	return true
}

// TestFair covers the Fair of P23.2.
func TestFair(t *testing.T) {
	for i, c := range []struct {
		workers int
		picks   []int
		want    bool
	}{
		{2, []int{1, 0, 1, 0}, true},
		{2, []int{0, 1, 1}, false},
		{2, nil, true},
		{2, []int{7}, true},
		{3, []int{5, 5}, true},
		{3, []int{0, 0}, true},
		{3, []int{0, 0, 1}, false},
		{1, []int{0, 0, 0}, true},
		{1, []int{0, 1, 0}, false},
		{1, []int{-1}, false},
		{1, nil, true},
		{3, []int{2, 0, 1, 2, 0, 1, 2}, true},
		{3, []int{2, 0, 1, 2, 1, 0}, false},
		{3, []int{2, 0, 1, 2, 0, 3}, false},
		{3, []int{2, 0, low, 2, 0, low}, false},
		{2, []int{top, 0}, false},
		{0, nil, false},
		{0, []int{0}, false},
		{-1, nil, false},
		{low, nil, false},
		{65, nil, false},
		{top, []int{0}, false},
		{64, nil, true},
		{64, bound.Turns(64, 1000), true},
		{64, append(bound.Turns(64, 1000), 0), false},
		{64, append(bound.Turns(64, 128), 0), true},
	} {
		if got := bound.Fair(c.workers, c.picks...); got != c.want || got != fair(c.workers, c.picks) {
			t.Error(i, got)
		}
	}
	for workers := 1; workers < 5; workers++ {
		for code := range 4096 * 4 {
			var picks []int
			for n := code; n > 1; n /= 4 {
				picks = append(picks, n%4)
			}
			if got := bound.Fair(workers, picks...); got != fair(workers, picks) {
				t.Fatal(workers, picks, got)
			}
		}
	}
}

// TestTurns covers the Turns of P23.2.
func TestTurns(t *testing.T) {
	for _, c := range []struct {
		workers, n int
		want       []int
	}{
		{3, 7, []int{0, 1, 2, 0, 1, 2, 0}}, {1, 3, []int{0, 0, 0}}, {64, 2, []int{0, 1}}, {3, 0, nil}, {3, -1, nil}, {3, low, nil}, {0, 5, nil}, {-1, 5, nil}, {65, 5, nil}, {low, 5, nil}, {top, 5, nil},
	} {
		if got := bound.Turns(c.workers, c.n); !slices.Equal(got, c.want) {
			t.Error(c, got)
		}
	}
	l := bound.Turns(64, api.MaxSize)
	if len(l) != api.MaxSize || l[api.MaxSize-1] != 63 || !bound.Fair(64, l...) {
		t.Error(len(l))
	}
}

// TestProgress covers P23.3 and P23.4.
func TestProgress(t *testing.T) {
	for i, in := range inputs() {
		steps, all := bound.Steps(in.Config, 17), bound.Picks(in.Config, 17)
		workers := in.Config.Workers
		back := bound.Turns(workers, all)
		slices.Reverse(back)
		for _, picks := range [][]int{nil, {0}, {-1, 99, low, top}, bound.Turns(workers, all/7), bound.Turns(workers, all), back, append(back, 0, 0, 0)} {
			x, _ := sched.New(in)
			effective := x.Run(picks...)
			got, code := bound.Progress(in, picks...)
			if want := (bound.Report{Effective: effective, Left: steps - effective, Idle: len(picks) - effective, Done: x.Done()}); got != want || code != api.OK {
				t.Error(i, len(picks), got, want, code)
			}
			if got.Left < 0 || (got.Left == 0) != got.Done {
				t.Error(i, got)
			}
			if len(picks) >= all && bound.Fair(workers, picks...) && !got.Done {
				t.Error(i, "fair picks do not finish", got)
			}
		}
	}
	for want, f := range map[api.Code]func(in *api.Input){
		api.ErrWorkers: func(in *api.Input) { in.Config.Workers = 0 },
		api.ErrShift:   func(in *api.Input) { in.Config.Shift = 0 },
		api.ErrShape:   func(in *api.Input) { in.Start = nil },
		api.ErrRange:   func(in *api.Input) { in.Config.Capacity = 0 },
		api.ErrBatch:   func(in *api.Input) { in.Data = in.Data[:3] },
		api.ErrDraws:   func(in *api.Input) { in.Draws = in.Draws[:15] },
	} {
		in := input()
		f(&in)
		if got, code := bound.Progress(in, 0, 1); got != (bound.Report{}) || code != want {
			t.Error(want, got, code)
		}
	}
}

// TestEffective covers P23.4: as many effective picks as Steps says finish a run.
func TestEffective(t *testing.T) {
	for i, in := range inputs() {
		x, _ := sched.New(in)
		var picks []int
		for n := uint64(i); !x.Done(); n = n*6364136223846793005 + 1442695040888963407 {
			l := x.Enabled()
			w := l[n>>33%uint64(len(l))]
			picks = append(picks, w)
			x.Pick(w)
		}
		if len(picks) != bound.Steps(in.Config, 17) {
			t.Error(i, len(picks))
		}
		if got, code := bound.Progress(in, picks...); got != (bound.Report{Effective: len(picks), Done: true}) || code != api.OK {
			t.Error(i, got, code)
		}
		if got, code := bound.Progress(in, picks[:max(len(picks)-1, 0)]...); got.Done != (len(picks) == 0) || code != api.OK {
			t.Error(i, got, code)
		}
	}
}
