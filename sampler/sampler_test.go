package sampler_test

import (
	"math"
	"slices"
	"testing"

	"sakia/api"
	"sakia/draw"
	"sakia/part"
	"sakia/perm"
	"sakia/sampler"
)

const (
	top = math.MaxInt
	low = math.MinInt
)

// draws returns some draws of all sizes.
func draws(n int) []uint64 {
	l := make([]uint64, n)
	x := uint64(12345)
	for i := range l {
		x = x*6364136223846793005 + 1442695040888963407
		l[i] = x >> (i % 60)
	}
	return l
}

func made(t *testing.T, n, batch, steps int, l ...uint64) *sampler.Sampler {
	t.Helper()
	s, code := sampler.New(n, batch, steps, l...)
	if s == nil || code != api.OK {
		t.Fatal(n, batch, steps, code)
	}
	return s
}

// TestNew covers P12.1.
func TestNew(t *testing.T) {
	for i, c := range []struct {
		n, batch, steps, draws int
		code                   api.Code
	}{
		{4, 2, 2, 3, api.OK},
		{4, 2, 2, 2, api.ErrDraws},
		{4, 2, 3, 5, api.ErrDraws},
		{4, 2, 3, 6, api.OK},
		{4, 2, 3, 7, api.OK},
		{4, 3, 2, 6, api.OK},
		{4, 3, 2, 5, api.ErrDraws},
		{4, 2, 0, 0, api.OK},
		{1, 1, 5, 0, api.OK},
		{1, 1, api.MaxSize, 0, api.OK},
		{1, 1, api.MaxSize + 1, 0, api.ErrRange},
		{4, 2, -1, 9, api.ErrRange},
		{0, 0, 0, 0, api.ErrRange},
		{0, 1, 1, 0, api.ErrRange},
		{-1, 0, 0, 0, api.ErrRange},
		{low, low, low, 0, api.ErrRange},
		{api.MaxSize + 1, 1, 0, 0, api.ErrRange},
		{top, top, top, 0, api.ErrRange},
		{api.MaxSize, 1, 0, 0, api.OK},
		{api.MaxSize, api.MaxSize, 1, api.MaxSize - 1, api.OK},
		{api.MaxSize, 1, 1, api.MaxSize - 2, api.ErrDraws},
		{4, 0, 0, 0, api.ErrBatch},
		{4, 5, 0, 0, api.ErrBatch},
		{4, -1, 2, 0, api.ErrBatch},
		{4, low, 2, 9, api.ErrBatch},
		{4, top, 2, 9, api.ErrBatch},
		{4, 5, -1, 9, api.ErrRange},
	} {
		s, code := sampler.New(c.n, c.batch, c.steps, make([]uint64, c.draws)...)
		if code != c.code || (s != nil) != (code == api.OK) {
			t.Error(i, code)
		}
		if s != nil && s.Steps() != c.steps {
			t.Error(i, s.Steps())
		}
	}
}

func TestExample(t *testing.T) {
	s := made(t, 4, 2, 2, 3, 2, 1)
	if l := s.Batch(1); !slices.Equal(l, []int{2, 3}) {
		t.Error(l)
	}
	if l := s.Batch(0); !slices.Equal(l, []int{0, 1}) {
		t.Error(l)
	}
}

// orders returns the orders of epochs by their definition.
func orders(t *testing.T, n, epochs int, l []uint64) [][]int {
	t.Helper()
	var all [][]int
	stream := draw.New(l...)
	for range epochs {
		p, ok := perm.Shuffle(n, stream)
		if !ok {
			t.Fatal("too few draws")
		}
		all = append(all, p)
	}
	return all
}

// TestBatches covers P12.2 to P12.4.
func TestBatches(t *testing.T) {
	for _, c := range [][3]int{{1, 1, 3}, {4, 2, 5}, {7, 2, 7}, {7, 3, 5}, {7, 7, 3}, {7, 4, 3}, {12, 5, 1}, {12, 1, 15}, {30, 8, 10}, {5, 2, 0}} {
		n, batch, steps := c[0], c[1], c[2]
		each := n / batch
		epochs := (steps + each - 1) / each
		l := draws(epochs * (n - 1))
		s := made(t, n, batch, steps, l...)
		all := orders(t, n, epochs, l)
		for step := range steps {
			epoch, place := step/each, step%each
			if e, p, ok := s.Epoch(step); e != epoch || p != place || !ok {
				t.Fatal(c, step, e, p, ok)
			}
			want := all[epoch][place*batch : (place+1)*batch]
			if got := s.Batch(step); !slices.Equal(got, want) {
				t.Fatal(c, step, got, want)
			}
			checkShards(t, s, step, want)
		}
		for epoch := range epochs {
			if got := s.Unused(epoch); !slices.Equal(got, all[epoch][each*batch:]) {
				t.Fatal(c, epoch, got)
			}
		}
		checkOutside(t, s, steps, epochs)
	}
}

// checkShards checks the shards and the micro-batches of a step.
func checkShards(t *testing.T, s *sampler.Sampler, step int, batch []int) {
	t.Helper()
	for workers := 1; workers <= len(batch)+2; workers++ {
		for w, r := range part.Even(len(batch), workers) {
			shard := batch[r.Lo:r.Hi]
			if got := s.Shard(step, w, workers); !slices.Equal(got, shard) {
				t.Fatal(step, w, workers, got)
			}
			for micros := 1; micros <= len(shard)+2; micros++ {
				for a, m := range part.Even(len(shard), micros) {
					if got := s.Micro(step, w, workers, a, micros); !slices.Equal(got, shard[m.Lo:m.Hi]) {
						t.Fatal(step, w, workers, a, micros, got)
					}
				}
			}
		}
	}
}

// checkOutside asks for what is not there.
func checkOutside(t *testing.T, s *sampler.Sampler, steps, epochs int) {
	t.Helper()
	for _, step := range []int{low, -1, steps, steps + 1, top} {
		if e, p, ok := s.Epoch(step); e != 0 || p != 0 || ok {
			t.Error(step, e, p, ok)
		}
		if len(s.Batch(step)) != 0 || len(s.Shard(step, 0, 1)) != 0 || len(s.Micro(step, 0, 1, 0, 1)) != 0 {
			t.Error(step)
		}
	}
	for _, c := range [][2]int{{-1, 2}, {2, 2}, {low, 2}, {top, 2}, {0, 0}, {0, -1}, {-1, -1}, {-2, -1}, {low, low}, {0, low}, {-1, 0}} {
		if len(s.Shard(0, c[0], c[1])) != 0 || len(s.Micro(0, c[0], c[1], 0, 1)) != 0 || len(s.Micro(0, 0, 1, c[0], c[1])) != 0 {
			t.Error(c)
		}
	}
	for _, epoch := range []int{low, -1, epochs, epochs + 1, top} {
		if got := s.Unused(epoch); len(got) != 0 {
			t.Error(epoch, got)
		}
	}
}

// TestManyParts: as many workers and micro-batches as are possible.
func TestManyParts(t *testing.T) {
	s := made(t, 3, 3, 1, 2, 1)
	const most = api.MaxSize
	for w, want := range [][]int{{0}, {1}, {2}, nil} {
		if got := s.Shard(0, w, most); !slices.Equal(got, want) {
			t.Error(w, got)
		}
		if got := s.Micro(0, 0, 1, w, most); !slices.Equal(got, want) {
			t.Error(w, got)
		}
	}
	if len(s.Shard(0, most-1, most)) != 0 || len(s.Shard(0, most, most)) != 0 || len(s.Micro(0, most-1, most, most-1, most)) != 0 {
		t.Error("the last ones")
	}
}

// TestWhole covers P12.4.
func TestWhole(t *testing.T) {
	s := made(t, 17, 5, 3, draws(16)...)
	var used []int
	for step := range 3 {
		batch := s.Batch(step)
		used = append(used, batch...)
		for workers := 1; workers < 9; workers++ {
			var whole []int
			for w := range workers {
				shard := s.Shard(step, w, workers)
				whole = append(whole, shard...)
				for micros := 1; micros < 9; micros++ {
					var l []int
					for a := range micros {
						l = append(l, s.Micro(step, w, workers, a, micros)...)
					}
					if !slices.Equal(l, shard) {
						t.Error(step, w, workers, micros, l)
					}
				}
			}
			if !slices.Equal(whole, batch) {
				t.Error(step, workers, whole)
			}
		}
	}
	used = append(used, s.Unused(0)...)
	if !perm.Valid(used...) || len(used) != 17 {
		t.Error(used)
	}
}

// TestMemory: results and arguments are not kept.
func TestMemory(t *testing.T) {
	l := []uint64{4, 3, 2, 1}
	s := made(t, 5, 2, 1, l...)
	clear(l)
	s.Batch(0)[0], s.Shard(0, 0, 1)[0], s.Micro(0, 0, 1, 0, 1)[0], s.Unused(0)[0] = 9, 9, 9, 9
	_ = append(s.Shard(0, 0, 2), 9)
	if got := s.Batch(0); !slices.Equal(got, []int{0, 1}) {
		t.Error(got)
	}
	if got := s.Unused(0); !slices.Equal(got, []int{4}) {
		t.Error(got)
	}
}

// TestNil: on a nil Sampler, all methods return zero values.
func TestNil(t *testing.T) {
	var s *sampler.Sampler
	if s.Steps() != 0 || len(s.Batch(0)) != 0 || len(s.Shard(0, 0, 1)) != 0 || len(s.Micro(0, 0, 1, 0, 1)) != 0 || len(s.Unused(0)) != 0 {
		t.Error("lists")
	}
	if e, p, ok := s.Epoch(0); e != 0 || p != 0 || ok {
		t.Error(e, p, ok)
	}
}
