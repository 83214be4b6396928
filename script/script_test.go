package script_test

import (
	"slices"
	"strconv"
	"strings"
	"testing"

	"sakia/api"
	"sakia/bound"
	"sakia/conf"
	"sakia/data"
	"sakia/deci"
	"sakia/script"
	"sakia/train"
)

const config = "sizes 2,3,1 shift 8 rate 0.25 momentum -0.5 workers 2 batch 4 micros 3 steps 3 bucket 6 chunk 2 window 2 capacity 1"

// filled returns numbers of both signs below a bound.
func filled(n int, seed, bound uint64) []int64 {
	v := make([]int64, n)
	for i := range v {
		seed = seed*6364136223846793005 + 1442695040888963407
		v[i] = int64(seed>>33%bound) - int64(bound/2)
	}
	return v
}

// input returns a right input with 13 parameters and 9 examples.
func input() api.Input {
	c, _ := conf.Parse(config)
	in := api.Input{Config: c, Start: filled(13, 1, 500)}
	for i := range 9 {
		in.Data = append(in.Data, api.Example{X: filled(2, uint64(i)+10, 600), Y: filled(1, uint64(i)+20, 600)})
	}
	for i := range 16 {
		in.Draws = append(in.Draws, uint64(i*i*7919))
	}
	return in
}

// lines returns the lines that make an input.
func lines(in api.Input) []string {
	c, _ := conf.Text(in.Config)
	l := []string{"config " + c}
	for _, e := range in.Data {
		s, _ := data.Text(e, in.Config.Shift)
		l = append(l, "example "+s)
	}
	start, draws := "start", "draws"
	for _, x := range in.Start {
		start += " " + deci.Text(x, in.Config.Shift)
	}
	for _, x := range in.Draws {
		draws += " " + strconv.FormatUint(x, 10)
	}
	return append(l, start, draws)
}

// filledSession returns a session that has an input.
func filledSession(t *testing.T, in api.Input) *script.Session {
	t.Helper()
	s := script.New()
	for _, line := range lines(in) {
		if got := s.Do(line); got != "ok" {
			t.Fatal(line, got)
		}
	}
	return s
}

// step is a line with its output.
type step struct{ line, want string }

func do(t *testing.T, s *script.Session, l ...step) {
	t.Helper()
	for _, x := range l {
		if got := s.Do(x.line); got != x.want {
			t.Errorf("%q: %q, not %q", x.line, got, x.want)
		}
	}
}

// TestNew covers P26.1: a new session has a zero input and no report.
func TestNew(t *testing.T) {
	do(t, script.New(),
		step{"count", "0 0 0"}, step{"check", "error 6"}, step{"bound", "0 0"}, step{"best", "error 13"}, step{"show 0", "error 13"}, step{"params 0", "error 13"},
		step{"run serial", "error 6"}, step{"run nothing", "error 6"}, step{"picks 0", "error 6"}, step{"clear", "ok"}, step{"count", "0 0 0"},
		step{"example 3 > -4", "ok"}, step{"example 0.5 > 1", "error 3"}, step{"start 7", "ok"}, step{"start 0.5", "error 3"}, step{"count", "1 1 0"},
	)
}

// TestSession covers the outputs of P26.1.
func TestSession(t *testing.T) {
	in := input()
	s := filledSession(t, in)
	r, code := train.Run(in, train.Serial)
	if code != api.OK {
		t.Fatal(code)
	}
	steps, picks := bound.Steps(in.Config, 13), bound.Picks(in.Config, 13)
	do(t, s, step{"count", "9 13 16"}, step{"check", "ok"}, step{"bound", strconv.Itoa(steps) + " " + strconv.Itoa(picks)})
	for _, name := range []string{"serial", "turns", "crew"} {
		do(t, s, step{"run " + name, "ok 4"})
		for i := range 4 {
			line, _ := r.Line(i)
			var texts []string
			for _, x := range r.States[i].P {
				texts = append(texts, deci.Text(x, 8))
			}
			do(t, s, step{"show " + strconv.Itoa(i), line}, step{"params " + strconv.Itoa(i), strings.Join(texts, " ")})
		}
		best, _ := r.Best()
		do(t, s, step{"best", strconv.Itoa(best)})
		do(t, s, step{"show 4", "error 2"}, step{"params 4", "error 2"}, step{"show 1048576", "error 2"}, step{"params 1048576", "error 2"}, step{"show 1048577", "error 3"}, step{"params 1048577", "error 3"})
	}
	do(t, s, step{"run other", "error 14"}, step{"run ", "error 14"}, step{"run Serial", "error 14"}, step{"best", bestOf(r)})
}

func bestOf(r train.Report) string {
	best, _ := r.Best()
	return strconv.Itoa(best)
}

// TestPicks covers the line picks.
func TestPicks(t *testing.T) {
	in := input()
	s := filledSession(t, in)
	for _, n := range []int{1, 2, 10, 50, bound.Picks(in.Config, 13)} {
		line := "picks"
		l := bound.Turns(2, n)
		for _, w := range l {
			line += " " + strconv.Itoa(w)
		}
		r, _ := bound.Progress(in, l...)
		do(t, s, step{line, strconv.Itoa(r.Effective) + " " + strconv.Itoa(r.Left) + " " + strconv.Itoa(r.Idle) + " " + strconv.FormatBool(r.Done)})
	}
	left := bound.Steps(in.Config, 13)
	do(t, s, step{"picks 2 1048576", "0 " + strconv.Itoa(left) + " 2 false"}, step{"picks 1048577", "error 3"}, step{"picks -1", "error 3"}, step{"picks", "error 3"}, step{"picks ", "error 3"}, step{"picks 0  1", "error 3"}, step{"picks 0 ", "error 3"}, step{"picks 0 x", "error 3"}, step{"picks 00", "error 3"})
	in.Config.Steps, in.Draws = 0, nil
	do(t, s, step{lines(in)[0], "ok"}, step{"picks 0", "0 0 1 true"}, step{"bound", "0 0"}, step{"run crew", "ok 1"})
}

// TestRefuses: all other lines have the output error 3, and change nothing.
func TestRefuses(t *testing.T) {
	s := filledSession(t, input())
	do(t, s, step{"run turns", "ok 4"})
	shown := s.Do("show 3")
	for _, line := range []string{
		"", " ", "  ", "other", "Count", "count ", " count", "count 1", "clear ", "clear 1", "check ", "check x", "best ", "best 0", "bound ", "bound 1", "counts", "count\n", "count\t",
		"run", "run serial ", "run serial turns", "run  serial", "show", "show ", "show x", "show -1", "show 01", "show +1", "show 0 ", "show 0 1", "show 0.5", "params", "params ", "params x", "params 0 0", "params -0",
		"config", "config ", "config x", "config " + config + " ", "config  " + config, "config shift 8", "example", "example ", "example >", "example 1", "example 1 >", "example 1 > 2 ", "example  1 > 2", "example 1 > 0.001",
		"start", "start ", "start 1 ", "start  1", "start 1  2", "start x", "start 1 x", "start 0.001", "start 01", "start 72057594037927936", "draws", "draws ", "draws 1 ", "draws -1", "draws 1 -1", "draws 9223372036854775808", "draws 0.5", "draws 01", "draws 1 x",
		"exec", "names", "train", "new", "do",
	} {
		do(t, s, step{line, "error 3"})
	}
	do(t, s, step{"count", "9 13 16"}, step{"check", "ok"}, step{"show 3", shown}, step{"run turns", "ok 4"}, step{"show 3", shown})
}

// TestInputs: what lines do to the input.
func TestInputs(t *testing.T) {
	s := filledSession(t, input())
	do(t, s,
		step{"draws 9223372036854775807 0", "ok"}, step{"count", "9 13 18"}, step{"start 1", "ok"}, step{"count", "9 1 18"}, step{"check", "error 5"}, step{"run crew", "error 5"}, step{"run other", "error 5"}, step{"picks 0", "error 5"},
		step{"start -36028797018963968 36028797018963967.99609375", "ok"}, step{"count", "9 2 18"}, step{"example 1 2 3 > 4", "ok"}, step{"count", "10 2 18"},
		step{"config sizes 1,1 shift 1 rate 0 momentum 0 workers 1 batch 1 micros 1 steps 0 bucket 1 chunk 1 window 1 capacity 1", "ok"}, step{"example 0.5 > 1", "ok"}, step{"example 0.25 > 1", "error 3"}, step{"count", "11 2 18"}, step{"check", "error 5"},
		step{"config sizes 1,1 shift 0 rate 0 momentum 0 workers 1 batch 1 micros 1 steps 0 bucket 1 chunk 1 window 1 capacity 1", "ok"}, step{"check", "error 9"},
		step{"clear", "ok"}, step{"count", "0 0 0"}, step{"best", "error 13"}, step{"check", "error 6"},
	)
}

// TestReportStays: a report stays until the next one, or until clear; its Shift is its own.
func TestReportStays(t *testing.T) {
	in := input()
	s := filledSession(t, in)
	do(t, s, step{"show 0", "error 13"}, step{"run serial", "ok 4"})
	shown, params := s.Do("show 2"), s.Do("params 2")
	do(t, s, step{"config " + strings.Replace(config, "shift 8", "shift 20", 1), "ok"}, step{"start 1", "ok"}, step{"run serial", "error 5"}, step{"show 2", shown}, step{"params 2", params}, step{"show 4", "error 2"})
	do(t, s, step{"clear", "ok"}, step{"show 2", "error 13"}, step{"params 2", "error 13"}, step{"show x", "error 3"})
	for _, line := range lines(in) {
		do(t, s, step{line, "ok"})
	}
	do(t, s, step{"run crew", "ok 4"}, step{"show 2", shown})
}

// TestByHand: a session that can be calculated by hand.
func TestByHand(t *testing.T) {
	outputs := script.Run("config sizes 1,1 shift 1 rate 0.5 momentum 0 workers 1 batch 1 micros 1 steps 1 bucket 1 chunk 1 window 1 capacity 1\n\nexample 1 > 2.5\nstart 1 -0.5\n\n\ncheck\nbound\nrun turns\nparams 0\nparams 1\nbest\npicks 0 0 0 0 0 0 0\n")
	if want := []string{"ok", "ok", "ok", "ok", "6 6", "ok 2", "1 -0.5", "2 0.5", "1", "6 0 1 true"}; !slices.Equal(outputs, want) {
		t.Error(outputs, want)
	}
}

// TestRun covers P26.2.
func TestRun(t *testing.T) {
	for _, c := range []struct {
		text string
		want []string
	}{
		{"", nil}, {"\n", nil}, {"\n\n\n", nil}, {"count", []string{"0 0 0"}}, {"count\n", []string{"0 0 0"}}, {"\ncount\n\ncount", []string{"0 0 0", "0 0 0"}}, {" \ncount", []string{"error 3", "0 0 0"}}, {"count\r\ncount", []string{"error 3", "0 0 0"}},
		{"draws 1 2\ncount\nclear\ncount", []string{"ok", "0 0 2", "ok", "0 0 0"}}, {"x\ny\nz", []string{"error 3", "error 3", "error 3"}},
	} {
		if got := script.Run(c.text); !slices.Equal(got, c.want) {
			t.Errorf("%q: %q", c.text, got)
		}
	}
	in := input()
	text := strings.Join(lines(in), "\n") + "\nrun MODE\nshow 0\nshow 1\nshow 2\nshow 3\nbest\nparams 3"
	want := script.Run(strings.Replace(text, "MODE", "serial", 1))
	if len(want) != 19 || want[12] != "ok 4" {
		t.Error(want)
	}
	for _, mode := range []string{"turns", "crew"} {
		if got := script.Run(strings.Replace(text, "MODE", mode, 1)); !slices.Equal(got, want) {
			t.Error(mode, got)
		}
	}
}

// TestSessionsAreIndependent covers P2.
func TestSessionsAreIndependent(t *testing.T) {
	a, b := script.New(), script.New()
	do(t, a, step{"draws 1", "ok"}, step{"count", "0 0 1"})
	do(t, b, step{"count", "0 0 0"})
}

// TestNames covers P26.3.
func TestNames(t *testing.T) {
	want := []string{"best", "bound", "check", "clear", "config", "count", "draws", "example", "params", "picks", "run", "show", "start"}
	l := script.Names()
	if !slices.Equal(l, want) {
		t.Error(l)
	}
	l[0] = "x"
	if l := script.Names(); !slices.Equal(l, want) {
		t.Error(l)
	}
}

// TestNil: a nil Session has the output error 1 for all lines.
func TestNil(t *testing.T) {
	var s *script.Session
	do(t, s, step{"count", "error 1"}, step{"", "error 1"}, step{"x", "error 1"}, step{"clear", "error 1"}, step{"config " + config, "error 1"})
}
