package ring_test

import (
	"math"
	"slices"
	"testing"

	"sakia/api"
	"sakia/bucket"
	"sakia/part"
	"sakia/ring"
	"sakia/tag"
	"sakia/vec"
)

const (
	top = math.MaxInt
	low = math.MinInt
)

func job(lo, hi, workers, chunk int) ring.Job {
	return ring.Job{Step: 7, Bucket: 5, At: part.Range{Lo: lo, Hi: hi}, Workers: workers, Chunk: chunk}
}

// jobs returns jobs of many sizes, also with empty segments.
func jobs() []ring.Job {
	var l []ring.Job
	for _, workers := range []int{1, 2, 3, 4, 5, 8, 64} {
		for _, n := range []int{0, 1, 2, 3, 7, 13, 130} {
			for _, chunk := range []int{1, 2, 1000} {
				l = append(l, job(3, 3+n, workers, chunk))
			}
		}
	}
	return l
}

func mod(n, w int) int {
	return ((n % w) + w) % w
}

// segment is the definition of the segments.
func segment(w, workers, phase, round int, send bool) int {
	switch {
	case phase == api.Scatter && send:
		return mod(w-round, workers)
	case phase == api.Scatter:
		return mod(w-round-1, workers)
	case send:
		return mod(w+1-round, workers)
	}
	return mod(w-round, workers)
}

// TestSegment covers P19.1.
func TestSegment(t *testing.T) {
	for workers := 1; workers <= api.MaxWorkers; workers++ {
		j := job(0, 10, workers, 2)
		if j.Rounds() != 2*(workers-1) {
			t.Error(workers, j.Rounds())
		}
		for w := range workers {
			for phase := range 2 {
				for round := range workers - 1 {
					for _, send := range []bool{true, false} {
						if s, ok := j.Segment(w, phase, round, send); s != segment(w, workers, phase, round, send) || !ok {
							t.Fatal(workers, w, phase, round, send, s, ok)
						}
					}
				}
			}
		}
		for _, c := range wrong(workers) {
			for _, send := range []bool{true, false} {
				if s, ok := j.Segment(c[0], c[1], c[2], send); s != 0 || ok {
					t.Fatal(workers, c, s, ok)
				}
			}
		}
	}
	j := job(0, 10, 3, 2)
	var sent []int
	for phase := range 2 {
		for round := range 2 {
			s, _ := j.Segment(0, phase, round, true)
			sent = append(sent, s)
		}
	}
	if !slices.Equal(sent, []int{0, 2, 1, 0}) {
		t.Error(sent)
	}
}

// wrong returns workers, phases and rounds of which one is not there.
func wrong(workers int) [][3]int {
	l := [][3]int{{0, 0, workers - 1}, {0, 1, workers - 1}}
	for _, n := range []int{low, -1, top} {
		l = append(l, [3]int{n, 0, 0}, [3]int{0, n, 0}, [3]int{0, 0, n})
	}
	return append(l, [3]int{workers, 0, 0}, [3]int{0, 2, 0})
}

// actions is the definition of a round.
func actions(j ring.Job, w, phase, round int) []ring.Action {
	segments := bucket.Segments(j.At, j.Workers)
	out := bucket.Chunks(segments[segment(w, j.Workers, phase, round, true)], j.Chunk)
	in := bucket.Chunks(segments[segment(w, j.Workers, phase, round, false)], j.Chunk)
	var l []ring.Action
	for i := 0; i < len(out) || i < len(in); i++ {
		x := api.Tag{Step: j.Step, Bucket: j.Bucket, Phase: phase, Round: round, Chunk: i}
		if i < len(out) {
			l = append(l, ring.Action{Send: true, Tag: x, At: out[i]})
		}
		if i < len(in) {
			l = append(l, ring.Action{Add: phase == api.Scatter, Tag: x, At: in[i]})
		}
	}
	return l
}

// TestRound covers P19.2.
func TestRound(t *testing.T) {
	for _, j := range jobs() {
		for w := range j.Workers {
			var all []ring.Action
			for phase := range 2 {
				for round := range j.Workers - 1 {
					want := actions(j, w, phase, round)
					if l := j.Round(w, phase, round); !slices.Equal(l, want) {
						t.Fatal(j, w, phase, round, l)
					}
					all = append(all, want...)
				}
			}
			if l := j.Actions(w); !slices.Equal(l, all) {
				t.Fatal(j, w, l)
			}
		}
		for _, c := range wrong(j.Workers) {
			if l := j.Round(c[0], c[1], c[2]); len(l) != 0 {
				t.Fatal(j, c, l)
			}
		}
		for _, w := range []int{low, -1, j.Workers, top} {
			if l := j.Actions(w); len(l) != 0 {
				t.Fatal(j, w, l)
			}
		}
	}
}

// TestTags: the tags of a job with numbers that fit are right.
func TestTags(t *testing.T) {
	for _, a := range job(0, 130, 64, 1).Actions(63) {
		if !tag.Right(a.Tag) || a.Send && a.Add {
			t.Error(a)
		}
	}
}

// TestOwner covers P19.3.
func TestOwner(t *testing.T) {
	for workers := 2; workers <= api.MaxWorkers; workers++ {
		j := job(0, 10, workers, 2)
		for w := range workers {
			s, _ := j.Segment(w, api.Scatter, workers-2, false)
			if owner, ok := j.Owner(s); owner != w || !ok {
				t.Error(workers, w, owner, ok)
			}
		}
		for _, s := range []int{low, -1, workers, top} {
			if owner, ok := j.Owner(s); owner != 0 || ok {
				t.Error(workers, s, owner, ok)
			}
		}
	}
	one := job(0, 10, 1, 2)
	if owner, ok := one.Owner(0); owner != 0 || !ok {
		t.Error(owner, ok)
	}
	for _, s := range []int{-1, 1} {
		if owner, ok := one.Owner(s); owner != 0 || ok {
			t.Error(s, owner, ok)
		}
	}
}

// vectors returns vectors of all sizes of numbers.
func vectors(count, n int) []vec.Vector {
	var l []vec.Vector
	x := uint64(count*1000 + n)
	for range count {
		v := make(vec.Vector, n)
		for i := range v {
			x = x*6364136223846793005 + 1442695040888963407
			v[i] = int64(x) >> (x >> 30 % 60)
		}
		l = append(l, v)
	}
	return l
}

// TestReduce covers P19.4 and P19.5.
func TestReduce(t *testing.T) {
	for _, j := range jobs() {
		for _, more := range []int{0, 4} {
			l := vectors(j.Workers, j.At.Hi+more)
			before := vectors(j.Workers, j.At.Hi+more)
			total, _ := vec.Sum(l...)
			after, ok := j.Reduce(l...)
			if !ok || len(after) != j.Workers {
				t.Fatal(j, ok)
			}
			for w, v := range after {
				want := before[w].Clone()
				copy(want[j.At.Lo:j.At.Hi], total[j.At.Lo:j.At.Hi])
				if !v.Same(want) || !l[w].Same(before[w]) {
					t.Fatal(j, w, v, want)
				}
				clear(v)
			}
			for w := range l {
				if !l[w].Same(before[w]) {
					t.Fatal(j, w, "a result shares memory")
				}
			}
		}
	}
}

// TestReduceRefuses covers the failures of P19.4.
func TestReduceRefuses(t *testing.T) {
	j := job(1, 5, 3, 2)
	five, four, six := make(vec.Vector, 5), make(vec.Vector, 4), make(vec.Vector, 6)
	for i, l := range [][]vec.Vector{nil, {five}, {five, five}, {five, five, five, five}, {five, five, four}, {four, five, five}, {four, four, four}, {five, six, five}, {six, six, five}, {nil, nil, nil}} {
		if after, ok := j.Reduce(l...); len(after) != 0 || ok {
			t.Error(i, after, ok)
		}
	}
	if after, ok := j.Reduce(five, five, five); len(after) != 3 || !ok {
		t.Error(after, ok)
	}
	if after, ok := job(0, 0, 2, 1).Reduce(nil, vec.Vector{}); len(after) != 2 || !ok {
		t.Error(after, ok)
	}
}

// TestNeighbours covers P19.5: what a worker sends, the next one receives.
func TestNeighbours(t *testing.T) {
	for _, j := range jobs() {
		for w := range j.Workers {
			var out, in []ring.Action
			for _, a := range j.Actions(w) {
				if a.Send {
					out = append(out, a)
				}
			}
			for _, a := range j.Actions((w + 1) % j.Workers) {
				if !a.Send {
					in = append(in, a)
				}
			}
			if !slices.EqualFunc(out, in, func(a, b ring.Action) bool { return a.Tag == b.Tag && a.At == b.At }) {
				t.Fatal(j, w)
			}
		}
	}
}

// TestRounds: a round begins with what all vectors are at its beginning, so the order of the workers does not matter.
func TestRounds(t *testing.T) {
	j := job(0, 4, 2, 1)
	after, ok := j.Reduce(vec.Vector{1, 2, 3, 4}, vec.Vector{10, 20, 30, 40})
	if !ok || !after[0].Same(vec.Vector{11, 22, 33, 44}) || !after[1].Same(after[0]) {
		t.Error(after, ok)
	}
}
