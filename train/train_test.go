package train_test

import (
	"math"
	"math/big"
	"slices"
	"strconv"
	"strings"
	"testing"

	"sakia/api"
	"sakia/deci"
	"sakia/mark"
	"sakia/net"
	"sakia/serial"
	"sakia/sgd"
	"sakia/shape"
	"sakia/train"
	"sakia/vec"
)

const (
	top = math.MaxInt
	low = math.MinInt
)

// filled returns numbers of both signs below a bound.
func filled(n int, seed, bound uint64) []int64 {
	v := make([]int64, n)
	for i := range v {
		seed = seed*6364136223846793005 + 1442695040888963407
		v[i] = int64(seed>>33%bound) - int64(bound/2)
	}
	return v
}

// input returns a right input with 17 parameters and 9 examples.
func input() api.Input {
	in := api.Input{
		Config: api.Config{Sizes: []int{2, 3, 2}, Shift: 8, Rate: 4, Momentum: 100, Workers: 3, Batch: 4, Micros: 2, Steps: 5, Bucket: 6, Chunk: 2, Window: 2, Capacity: 2},
		Start:  filled(17, 1, 500),
	}
	for i := range 9 {
		in.Data = append(in.Data, api.Example{X: filled(2, uint64(i)+10, 600), Y: filled(2, uint64(i)+20, 600)})
	}
	for _, x := range filled(24, 5, 1<<30) {
		in.Draws = append(in.Draws, uint64(x))
	}
	return in
}

// report is the definition of a report.
func report(t *testing.T, in api.Input) train.Report {
	t.Helper()
	states, code := serial.Train(in)
	if code != api.OK {
		t.Fatal(code)
	}
	r := train.Report{Shift: in.Config.Shift, States: states}
	s, _ := shape.New(in.Config.Sizes...)
	for _, x := range states {
		n, _ := net.New(s, x.P, in.Config.Shift)
		total := int64(0)
		for _, e := range in.Data {
			loss, _ := n.Loss(e.X, e.Y)
			total += loss
		}
		r.Losses = append(r.Losses, total)
		r.Hashes = append(r.Hashes, x.P.Hash())
		r.Marks = append(r.Marks, mark.Of(x.P))
	}
	return r
}

// equal compares reports field by field.
func equal(a, b train.Report) bool {
	return a.Shift == b.Shift && slices.EqualFunc(a.States, b.States, sgd.Same) && slices.Equal(a.Losses, b.Losses) && slices.Equal(a.Hashes, b.Hashes) && slices.Equal(a.Marks, b.Marks)
}

func ran(t *testing.T, in api.Input, mode int) train.Report {
	t.Helper()
	r, code := train.Run(in, mode)
	if code != api.OK {
		t.Fatal(mode, code)
	}
	return r
}

// TestRun covers P25.1 and P25.5.
func TestRun(t *testing.T) {
	want := report(t, input())
	for i, f := range []func(c *api.Config){
		func(c *api.Config) {}, func(c *api.Config) { c.Workers = 1 }, func(c *api.Config) { c.Workers, c.Capacity = 4, 1 }, func(c *api.Config) { c.Micros = 5 }, func(c *api.Config) { c.Bucket = 1 }, func(c *api.Config) { c.Bucket = 1000 },
		func(c *api.Config) { c.Chunk = 1 }, func(c *api.Config) { c.Chunk = api.MaxSize }, func(c *api.Config) { c.Window = 1 }, func(c *api.Config) { c.Window = api.MaxSize }, func(c *api.Config) { c.Capacity = api.MaxSize },
	} {
		for mode := train.Serial; mode <= train.Crew; mode++ {
			in := input()
			f(&in.Config)
			if r := ran(t, in, mode); !equal(r, want) {
				t.Error(i, mode, r, want)
			}
		}
	}
	for mode := 1; mode <= 3; mode++ {
		in := input()
		in.Config.Steps, in.Draws = 0, nil
		if r := ran(t, in, mode); !equal(r, report(t, in)) || len(r.States) != 1 || len(r.Losses) != 1 {
			t.Error(mode, r)
		}
	}
}

// TestRunRefuses covers the codes of P25.1.
func TestRunRefuses(t *testing.T) {
	modes := []int{low, -1, 0, 4, top}
	for _, mode := range modes {
		if r, code := train.Run(input(), mode); code != api.ErrName || !equal(r, train.Report{}) {
			t.Error(mode, code, r)
		}
	}
	for want, f := range map[api.Code]func(in *api.Input){
		api.ErrWorkers: func(in *api.Input) { in.Config.Workers = 0 },
		api.ErrShift:   func(in *api.Input) { in.Config.Shift = 0 },
		api.ErrShape:   func(in *api.Input) { in.Start = nil },
		api.ErrLong:    func(in *api.Input) { in.Config.Sizes = []int{2, 1 << 20, 2} },
		api.ErrRange:   func(in *api.Input) { in.Config.Capacity = 0 },
		api.ErrBatch:   func(in *api.Input) { in.Data = in.Data[:3] },
		api.ErrDraws:   func(in *api.Input) { in.Draws = in.Draws[:23] },
	} {
		in := input()
		f(&in)
		for _, mode := range append(modes, 1, 2, 3) {
			if r, code := train.Run(in, mode); code != want || !equal(r, train.Report{}) {
				t.Error(mode, want, code)
			}
		}
	}
}

// TestRunKeepsInput: a run does not change its input, and shares no memory with it.
func TestRunKeepsInput(t *testing.T) {
	for mode := 1; mode <= 3; mode++ {
		in, before := input(), input()
		r := ran(t, in, mode)
		for _, s := range r.States {
			clear(s.P)
			clear(s.M)
		}
		same := slices.Equal(in.Start, before.Start) && slices.Equal(in.Draws, before.Draws) && slices.Equal(in.Config.Sizes, before.Config.Sizes) && in.Config.Steps == before.Config.Steps
		for i, e := range in.Data {
			same = same && slices.Equal(e.X, before.Data[i].X) && slices.Equal(e.Y, before.Data[i].Y)
		}
		if !same {
			t.Error(mode, "the input has changed")
		}
	}
}

// TestLine covers P25.2.
func TestLine(t *testing.T) {
	r := ran(t, input(), train.Turns)
	text := ""
	for i := range 6 {
		hash := new(big.Int).SetUint64(r.Hashes[i])
		want := "step " + strconv.Itoa(i) + " loss " + deci.Text(r.Losses[i], 8) + " hash " + hash.String() + " mark " + mark.Text(r.Marks[i])
		if s, ok := r.Line(i); s != want || !ok {
			t.Error(i, s, ok)
		}
		text += want + "\n"
	}
	if got := r.Text(); got != text {
		t.Error(got)
	}
	for _, i := range []int{low, -1, 6, 7, top} {
		if s, ok := r.Line(i); s != "" || ok {
			t.Error(i, s, ok)
		}
	}
	var none train.Report
	if s, ok := none.Line(0); s != "" || ok || none.Text() != "" {
		t.Error(s, ok)
	}
}

// TestExactLine: the line of a run that can be calculated by hand.
func TestExactLine(t *testing.T) {
	in := api.Input{
		Config: api.Config{Sizes: []int{1, 1}, Shift: 1, Rate: 1, Momentum: 0, Workers: 1, Batch: 1, Micros: 1, Steps: 1, Bucket: 1, Chunk: 1, Window: 1, Capacity: 1},
		Data:   []api.Example{{X: []int64{2}, Y: []int64{5}}},
		Start:  []int64{2, -1},
	}
	// At first, the output of 1 is 1 - 0.5, so the error is -2, and the loss 4. The gradient is -2, -2, and the next parameters are 2, 0.5.
	hash := func(a, b uint64) string {
		const m = 1099511628211
		return strconv.FormatUint(((1+a)*m+b)*m, 10)
	}
	want := "step 0 loss 4 hash " + hash(2, math.MaxUint64) + " mark 2-1i\nstep 1 loss 0 hash " + hash(4, 1) + " mark 4+1i\n"
	for mode := 1; mode <= 3; mode++ {
		if got := ran(t, in, mode).Text(); got != want {
			t.Error(mode, got, want)
		}
	}
}

// TestBest covers the Best of P25.3.
func TestBest(t *testing.T) {
	r := ran(t, input(), train.Serial)
	for _, c := range []struct {
		losses []int64
		want   int
	}{
		{[]int64{5, 4, 3, 3, 4, 3}, 2}, {[]int64{1, 1, 1, 1, 1, 1}, 0}, {[]int64{0, 5, -1, low, top, low}, 3}, {[]int64{9, 8, 7, 6, 5, 4}, 5}, {[]int64{0, 1, 2, 3, 4, 5}, 0},
	} {
		x := r
		x.Losses = c.losses
		if got, ok := x.Best(); got != c.want || !ok {
			t.Error(c.losses, got, ok)
		}
	}
	if got, ok := (train.Report{}).Best(); got != 0 || ok {
		t.Error(got, ok)
	}
	want := 0
	for i, x := range r.Losses {
		if x < r.Losses[want] {
			want = i
		}
	}
	if got, ok := r.Best(); got != want || !ok {
		t.Error(got, ok)
	}
}

// clone copies a report.
func clone(r train.Report) train.Report {
	c := train.Report{Shift: r.Shift, Losses: slices.Clone(r.Losses), Hashes: slices.Clone(r.Hashes), Marks: slices.Clone(r.Marks)}
	for _, s := range r.States {
		c.States = append(c.States, sgd.Clone(s))
	}
	return c
}

// TestSame covers the Same of P25.3.
func TestSame(t *testing.T) {
	r := ran(t, input(), train.Serial)
	if !train.Same(r, r) || !train.Same(r, clone(r)) || !train.Same(train.Report{}, train.Report{}) {
		t.Error("the same ones")
	}
	if !train.Same(train.Report{}, train.Report{States: []sgd.State{}, Losses: []int64{}, Hashes: []uint64{}, Marks: []complex128{}}) {
		t.Error("nil lists")
	}
	for i, f := range []func(r *train.Report){
		func(r *train.Report) { r.Shift++ },
		func(r *train.Report) { r.States[5].P[16]++ },
		func(r *train.Report) { r.States[0].M[0]++ },
		func(r *train.Report) { r.States[2].M = r.States[2].M[1:] },
		func(r *train.Report) { r.States[2].P = vec.Vector{} },
		func(r *train.Report) { r.States = r.States[:5] },
		func(r *train.Report) { r.Losses[3]++ },
		func(r *train.Report) { r.Losses = r.Losses[:5] },
		func(r *train.Report) { r.Hashes[3]++ },
		func(r *train.Report) { r.Hashes = nil },
		func(r *train.Report) { r.Marks[3]++ },
		func(r *train.Report) { r.Marks[3] += 1i },
		func(r *train.Report) { r.Marks = r.Marks[1:] },
		func(r *train.Report) { *r = train.Report{} },
	} {
		x := clone(r)
		f(&x)
		if train.Same(r, x) || train.Same(x, r) {
			t.Error(i)
		}
	}
	zero := train.Report{Marks: []complex128{complex(0, 0)}}
	if !train.Same(zero, train.Report{Marks: []complex128{complex(math.Copysign(0, -1), math.Copysign(0, -1))}}) {
		t.Error("0 and -0")
	}
}

// TestName covers P25.4.
func TestName(t *testing.T) {
	for mode, name := range map[int]string{1: "serial", 2: "turns", 3: "crew", 0: "", 4: "", -1: "", low: "", top: ""} {
		if got := train.Name(mode); got != name {
			t.Error(mode, got)
		}
		if name == "" {
			continue
		}
		if got, ok := train.Mode(name); got != mode || !ok {
			t.Error(name, got, ok)
		}
	}
	for _, name := range []string{"", " ", "Serial", "turn", "crew ", " crew", "serial\n", "1", strings.Repeat("crew", 2)} {
		if got, ok := train.Mode(name); got != 0 || ok {
			t.Error(name, got, ok)
		}
	}
	if train.Serial != 1 || train.Turns != 2 || train.Crew != 3 {
		t.Error("the numbers of the modes")
	}
}
