package conf_test

import (
	"math"
	"slices"
	"strings"
	"testing"

	"sakia/api"
	"sakia/conf"
)

const (
	top = math.MaxInt
	low = math.MinInt
	max = api.MaxSize
)

// right returns a right configuration.
func right() api.Config {
	return api.Config{Sizes: []int{2, 3, 1}, Shift: 8, Rate: 64, Momentum: -128, Workers: 2, Batch: 4, Micros: 3, Steps: 5, Bucket: 6, Chunk: 7, Window: 9, Capacity: 10}
}

// input returns a right input with 9 examples: 2 steps in each epoch, and 3 epochs.
func input() api.Input {
	in := api.Input{Config: right(), Start: make([]int64, 13), Draws: make([]uint64, 24)}
	for range 9 {
		in.Data = append(in.Data, api.Example{X: []int64{1, 2}, Y: []int64{3}})
	}
	return in
}

// change says how a configuration is changed.
type change func(c *api.Config)

// faults returns changes that make a configuration wrong, with the codes, in the order of the codes.
func faults() []struct {
	f    change
	code api.Code
} {
	type l = []struct {
		f    change
		code api.Code
	}
	return l{
		{func(c *api.Config) { c.Workers = 0 }, api.ErrWorkers},
		{func(c *api.Config) { c.Shift = 0 }, api.ErrShift},
		{func(c *api.Config) { c.Sizes = []int{2, 0, 1 << 20} }, api.ErrShape},
		{func(c *api.Config) { c.Sizes = []int{2, 1 << 20} }, api.ErrLong},
		{func(c *api.Config) { c.Chunk = 0 }, api.ErrRange},
		{func(c *api.Config) { c.Batch = 0 }, api.ErrBatch},
	}
}

// TestCheck covers the Check of P11.1.
func TestCheck(t *testing.T) {
	if code := conf.Check(right()); code != api.OK {
		t.Fatal(code)
	}
	if code := conf.Check(api.Config{}); code != api.ErrWorkers {
		t.Error(code)
	}
	for i, c := range []struct {
		f    change
		code api.Code
	}{
		{func(c *api.Config) { c.Workers, c.Batch = 64, 64 }, api.OK},
		{func(c *api.Config) { c.Workers, c.Batch = 65, 65 }, api.ErrWorkers},
		{func(c *api.Config) { c.Workers = 1 }, api.OK},
		{func(c *api.Config) { c.Workers = -1 }, api.ErrWorkers},
		{func(c *api.Config) { c.Workers = low }, api.ErrWorkers},
		{func(c *api.Config) { c.Workers = top }, api.ErrWorkers},
		{func(c *api.Config) { c.Shift = 1 }, api.OK},
		{func(c *api.Config) { c.Shift = 62 }, api.OK},
		{func(c *api.Config) { c.Shift = 63 }, api.ErrShift},
		{func(c *api.Config) { c.Shift = -1 }, api.ErrShift},
		{func(c *api.Config) { c.Shift = low }, api.ErrShift},
		{func(c *api.Config) { c.Sizes = nil }, api.ErrShape},
		{func(c *api.Config) { c.Sizes = []int{3} }, api.ErrShape},
		{func(c *api.Config) { c.Sizes = slices.Repeat([]int{1}, 17) }, api.ErrShape},
		{func(c *api.Config) { c.Sizes = slices.Repeat([]int{1}, 16) }, api.OK},
		{func(c *api.Config) { c.Sizes = []int{max + 1, 1} }, api.ErrShape},
		{func(c *api.Config) { c.Sizes = []int{max, 1} }, api.ErrLong},
		{func(c *api.Config) { c.Sizes = []int{max - 1, 1} }, api.OK},
		{func(c *api.Config) { c.Batch = 2 }, api.OK},
		{func(c *api.Config) { c.Batch = 1 }, api.ErrBatch},
		{func(c *api.Config) { c.Batch = -4 }, api.ErrBatch},
		{func(c *api.Config) { c.Batch = max }, api.OK},
		{func(c *api.Config) { c.Batch = max + 1 }, api.ErrBatch},
		{func(c *api.Config) { c.Batch = low }, api.ErrBatch},
		{func(c *api.Config) { c.Batch = top }, api.ErrBatch},
		{func(c *api.Config) { c.Steps = 0 }, api.OK},
		{func(c *api.Config) { c.Steps = max }, api.OK},
		{func(c *api.Config) { c.Steps = max + 1 }, api.ErrRange},
		{func(c *api.Config) { c.Steps = -1 }, api.ErrRange},
	} {
		x := right()
		c.f(&x)
		if code := conf.Check(x); code != c.code {
			t.Error(i, code)
		}
	}
}

// TestRanges covers the code 4, for each number.
func TestRanges(t *testing.T) {
	for i := range 5 {
		for _, c := range []struct {
			n    int
			code api.Code
		}{{1, api.OK}, {max, api.OK}, {0, api.ErrRange}, {-1, api.ErrRange}, {low, api.ErrRange}, {max + 1, api.ErrRange}, {top, api.ErrRange}} {
			x := right()
			*[]*int{&x.Micros, &x.Bucket, &x.Chunk, &x.Window, &x.Capacity}[i] = c.n
			if code := conf.Check(x); code != c.code {
				t.Error(i, c.n, code)
			}
		}
	}
}

// TestOrder: of several codes, the first one is returned; Input returns the one of the Config first.
func TestOrder(t *testing.T) {
	l := faults()
	for i, f := range l {
		for j, g := range l[i:] {
			if g.code == api.ErrLong && f.code == api.ErrShape {
				continue
			}
			x := right()
			g.f(&x)
			f.f(&x)
			if code := conf.Check(x); code != f.code {
				t.Error(i, j, code)
			}
			if code := conf.Input(api.Input{Config: x}); code != f.code {
				t.Error(i, j, code)
			}
		}
	}
}

// TestInput covers the Input of P11.1.
func TestInput(t *testing.T) {
	for i, c := range []struct {
		f    func(in *api.Input)
		code api.Code
	}{
		{func(in *api.Input) {}, api.OK},
		{func(in *api.Input) { in.Data = in.Data[:4] }, api.OK},
		{func(in *api.Input) { in.Data = in.Data[:3] }, api.ErrBatch},
		{func(in *api.Input) { in.Data = nil }, api.ErrBatch},
		{func(in *api.Input) { in.Data, in.Start, in.Draws = nil, nil, nil }, api.ErrBatch},
		{func(in *api.Input) { in.Data = slices.Repeat(in.Data[:1], max+1) }, api.ErrBatch},
		{func(in *api.Input) { in.Data = slices.Repeat(in.Data[:1], max) }, api.ErrDraws},
		{func(in *api.Input) {
			in.Data, in.Config.Batch, in.Draws = slices.Repeat(in.Data[:1], max), max/5, make([]uint64, max-1)
		}, api.OK},
		{func(in *api.Input) { in.Data[8].X = []int64{1} }, api.ErrShape},
		{func(in *api.Input) { in.Data[8].X = []int64{1, 2, 3} }, api.ErrShape},
		{func(in *api.Input) { in.Data[0].Y = nil }, api.ErrShape},
		{func(in *api.Input) { in.Data[4].Y = []int64{1, 2} }, api.ErrShape},
		{func(in *api.Input) { in.Data[4].Y, in.Draws = []int64{1, 2}, nil }, api.ErrShape},
		{func(in *api.Input) { in.Start = in.Start[:12] }, api.ErrShape},
		{func(in *api.Input) { in.Start = make([]int64, 14) }, api.ErrShape},
		{func(in *api.Input) { in.Start, in.Draws = nil, nil }, api.ErrShape},
		{func(in *api.Input) { in.Draws = in.Draws[:23] }, api.ErrDraws},
		{func(in *api.Input) { in.Draws = nil }, api.ErrDraws},
		{func(in *api.Input) { in.Draws = make([]uint64, 100) }, api.OK},
		{func(in *api.Input) { in.Draws, in.Config.Steps = nil, 0 }, api.OK},
		{func(in *api.Input) { in.Config.Steps, in.Draws = 4, in.Draws[:16] }, api.OK},
		{func(in *api.Input) { in.Config.Steps, in.Draws = 4, in.Draws[:15] }, api.ErrDraws},
	} {
		in := input()
		c.f(&in)
		if code := conf.Input(in); code != c.code {
			t.Error(i, code)
		}
	}
}

// TestEpochs covers P11.2.
func TestEpochs(t *testing.T) {
	for i, c := range []struct {
		batch, steps, n int
		epochs, need    int
	}{
		{4, 5, 9, 3, 24},
		{4, 4, 9, 2, 16},
		{4, 5, 4, 5, 15},
		{4, 5, 3, 0, 0},
		{4, 5, 0, 0, 0},
		{4, 5, -1, 0, 0},
		{4, 5, low, 0, 0},
		{4, 5, top, 0, 0},
		{4, 5, max, 1, max - 1},
		{4, 5, max + 1, 0, 0},
		{4, 0, 9, 0, 0},
		{4, 1, 9, 1, 8},
		{4, 2, 9, 1, 8},
		{4, 3, 9, 2, 16},
		{3, 9, 9, 3, 24},
		{9, 2, 9, 2, 16},
		{5, 2, 9, 2, 16},
		{max, max, max, max, max * (max - 1)},
		{2, max, 3, max, 2 * max},
		{1, 5, 9, 0, 0},
		{4, -1, 9, 0, 0},
	} {
		x := right()
		x.Batch, x.Steps = c.batch, c.steps
		if epochs, need := conf.Epochs(x, c.n), conf.Need(x, c.n); epochs != c.epochs || need != c.need {
			t.Error(i, epochs, need)
		}
	}
	one := right()
	one.Workers, one.Batch = 1, 1
	if epochs, need := conf.Epochs(one, 1), conf.Need(one, 1); epochs != 5 || need != 0 {
		t.Error(epochs, need)
	}
	for i, f := range faults() {
		x := right()
		f.f(&x)
		if epochs, need := conf.Epochs(x, 9), conf.Need(x, 9); epochs != 0 || need != 0 {
			t.Error(i, epochs, need)
		}
	}
}

const text = "sizes 2,3,1 shift 8 rate 0.25 momentum -0.5 workers 2 batch 4 micros 3 steps 5 bucket 6 chunk 7 window 9 capacity 10"

// TestText covers the Text of P11.3, and P11.4.
func TestText(t *testing.T) {
	if s, ok := conf.Text(right()); !ok || s != text {
		t.Error(s, ok)
	}
	if c, ok := conf.Parse(text); !ok || !conf.Same(c, right()) {
		t.Error(c, ok)
	}
	for i, c := range []struct {
		f    change
		want string
	}{
		{func(c *api.Config) { *c = api.Config{Sizes: []int{0}} }, "sizes 0 shift 0 rate 0 momentum 0 workers 0 batch 0 micros 0 steps 0 bucket 0 chunk 0 window 0 capacity 0"},
		{func(c *api.Config) { c.Sizes = []int{max, 0} }, strings.Replace(text, "2,3,1", "1048576,0", 1)},
		{func(c *api.Config) { c.Sizes = slices.Repeat([]int{5}, 20) }, strings.Replace(text, "2,3,1", "5"+strings.Repeat(",5", 19), 1)},
		{func(c *api.Config) { c.Shift, c.Rate, c.Momentum = 62, low, 1<<61 }, strings.Replace(text, "shift 8 rate 0.25 momentum -0.5", "shift 62 rate -2 momentum 0.5", 1)},
		{func(c *api.Config) { c.Shift, c.Rate, c.Momentum = 0, low, top }, strings.Replace(text, "shift 8 rate 0.25 momentum -0.5", "shift 0 rate -9223372036854775808 momentum 9223372036854775807", 1)},
		{func(c *api.Config) { c.Workers, c.Batch, c.Micros, c.Steps = max, max, max, max }, strings.Replace(text, "workers 2 batch 4 micros 3 steps 5", "workers 1048576 batch 1048576 micros 1048576 steps 1048576", 1)},
		{func(c *api.Config) { c.Bucket, c.Chunk, c.Window, c.Capacity = max, max, max, max }, strings.Replace(text, "bucket 6 chunk 7 window 9 capacity 10", "bucket 1048576 chunk 1048576 window 1048576 capacity 1048576", 1)},
	} {
		x := right()
		c.f(&x)
		s, ok := conf.Text(x)
		if !ok || s != c.want {
			t.Error(i, s, ok)
		}
		if y, ok := conf.Parse(s); !ok || !conf.Same(x, y) {
			t.Error(i, y, ok)
		}
	}
}

// TestTextRefuses: configurations without a text.
func TestTextRefuses(t *testing.T) {
	refused := func(f change) {
		t.Helper()
		x := right()
		f(&x)
		if s, ok := conf.Text(x); ok || s != "" {
			t.Error(s, ok)
		}
	}
	for i := range 8 {
		for _, n := range []int{-1, low, max + 1, top} {
			refused(func(c *api.Config) {
				*[]*int{&c.Workers, &c.Batch, &c.Micros, &c.Steps, &c.Bucket, &c.Chunk, &c.Window, &c.Capacity}[i] = n
			})
		}
	}
	for _, q := range []int{-1, low, 63, top} {
		refused(func(c *api.Config) { c.Shift = q })
	}
	for _, l := range [][]int{nil, {}, {-1}, {max + 1}, {1, 2, -3}, {1, top}} {
		refused(func(c *api.Config) { c.Sizes = l })
	}
}

// TestParseRefuses: texts that no configuration has.
func TestParseRefuses(t *testing.T) {
	l := []string{"", " ", "sizes", "sizes 1", text + " ", " " + text, text + " capacity 10", text + "\n", strings.ReplaceAll(text, " ", "  "), strings.ToUpper(text)}
	for _, c := range [][2]string{
		{"sizes 2,3,1", "sizes "}, {"sizes 2,3,1", "sizes"}, {"2,3,1", "2,,1"}, {"2,3,1", ",2"}, {"2,3,1", "2,"}, {"2,3,1", "2,03"}, {"2,3,1", "2,-3"}, {"2,3,1", "1048577"}, {"2,3,1", "2, 3"}, {"2,3,1", "x"},
		{"sizes", "size"}, {"sizes 2,3,1 shift 8", "shift 8 sizes 2,3,1"}, {"shift 8", "shift 63"}, {"shift 8", "shift -1"}, {"shift 8", "shift 08"}, {"shift 8", "shift 1"},
		{"0.25", "0.250"}, {"0.25", ".25"}, {"0.25", "0.001"}, {"0.25", ""}, {"-0.5", "-.5"}, {"-0.5", "-0"}, {"-0.5", "x"}, {"rate", "Rate"}, {"rate", "momentum"},
		{"workers 2", "workers 02"}, {"workers 2", "workers -1"}, {"workers 2", "workers 1048577"}, {"workers 2", "workers 2.5"}, {"batch 4", "batch +4"}, {"micros 3", "micros "}, {"steps 5", "steps x"},
		{"bucket 6", "bucket 99999999999999999999"}, {"chunk 7", "chunk 7 "}, {"window 9", "windows 9"}, {"window 9 ", ""}, {"capacity 10", "capacity"}, {"capacity 10", "capacity 1048577"}, {"batch 4 micros 3", "micros 3 batch 4"},
	} {
		l = append(l, strings.Replace(text, c[0], c[1], 1))
	}
	for _, s := range l {
		if c, ok := conf.Parse(s); ok || !conf.Same(c, api.Config{}) || c.Sizes != nil {
			t.Error(s, c, ok)
		}
	}
}

// TestSame covers the Same of P11.3.
func TestSame(t *testing.T) {
	if !conf.Same(right(), right()) || !conf.Same(api.Config{}, api.Config{Sizes: []int{}}) || !conf.Same(api.Config{Sizes: []int{}}, api.Config{}) {
		t.Error("the same ones")
	}
	for i, f := range []change{
		func(c *api.Config) { c.Sizes = nil }, func(c *api.Config) { c.Sizes = []int{2, 3} }, func(c *api.Config) { c.Sizes = []int{2, 3, 2} }, func(c *api.Config) { c.Sizes = []int{2, 3, 1, 1} },
		func(c *api.Config) { c.Shift++ }, func(c *api.Config) { c.Rate++ }, func(c *api.Config) { c.Momentum++ }, func(c *api.Config) { c.Workers++ }, func(c *api.Config) { c.Batch++ }, func(c *api.Config) { c.Micros++ },
		func(c *api.Config) { c.Steps++ }, func(c *api.Config) { c.Bucket++ }, func(c *api.Config) { c.Chunk++ }, func(c *api.Config) { c.Window++ }, func(c *api.Config) { c.Capacity++ },
		func(c *api.Config) { c.Rate, c.Momentum = c.Momentum, c.Rate }, func(c *api.Config) { c.Bucket, c.Chunk = c.Chunk, c.Bucket },
	} {
		x := right()
		f(&x)
		if conf.Same(x, right()) || conf.Same(right(), x) {
			t.Error(i)
		}
	}
}

// TestRateIsFree covers P11.4: neither Rate nor Momentum makes a configuration wrong.
func TestRateIsFree(t *testing.T) {
	for _, x := range []int64{low, -1, 0, 1, top} {
		in := input()
		in.Config.Rate, in.Config.Momentum = x, -x
		if code := conf.Check(in.Config); code != api.OK {
			t.Error(x, code)
		}
		if code := conf.Input(in); code != api.OK {
			t.Error(x, code)
		}
		in.Config.Workers = 0
		if code := conf.Check(in.Config); code != api.ErrWorkers {
			t.Error(x, code)
		}
	}
}
