package script

import (
	"math"
	"strings"

	"sakia/api"
	"sakia/bound"
	"sakia/conf"
	"sakia/data"
	"sakia/deci"
	"sakia/train"
)

// output returns the parts of an output.
func output(parts ...any) []any {
	return parts
}

// text returns what follows the name and a space.
func text(words []string) string {
	return strings.Join(words, " ")
}

// read returns what a function reads from at least one word, and true; or nothing and false.
func read[N any](words []string, f func(word string) (N, bool)) ([]N, bool) {
	var l []N
	for _, word := range words {
		n, ok := f(word)
		if !ok {
			return nil, false
		}
		l = append(l, n)
	}
	return l, len(l) > 0
}

// number reads a number from 0 to 2^20.
func number(word string) (int, bool) {
	return deci.Natural(word, api.MaxSize)
}

func (s *Session) config(words []string) []any {
	c, ok := conf.Parse(text(words))
	if !ok {
		return output(api.ErrSyntax)
	}
	s.input.Config = c
	return output("ok")
}

func (s *Session) example(words []string) []any {
	e, ok := data.Parse(text(words), s.input.Config.Shift)
	if !ok {
		return output(api.ErrSyntax)
	}
	s.input.Data = append(s.input.Data, e)
	return output("ok")
}

func (s *Session) start(words []string) []any {
	l, ok := read(words, func(word string) (int64, bool) {
		return deci.Parse(word, s.input.Config.Shift)
	})
	if !ok {
		return output(api.ErrSyntax)
	}
	s.input.Start = l
	return output("ok")
}

func (s *Session) draws(words []string) []any {
	l, ok := read(words, func(word string) (uint64, bool) {
		n, ok := deci.Natural(word, math.MaxInt64)
		return uint64(n), ok
	})
	if !ok {
		return output(api.ErrSyntax)
	}
	s.input.Draws = append(s.input.Draws, l...)
	return output("ok")
}

func (s *Session) clear(words []string) []any {
	if len(words) > 0 {
		return output(api.ErrSyntax)
	}
	*s = Session{}
	return output("ok")
}

func (s *Session) count(words []string) []any {
	if len(words) > 0 {
		return output(api.ErrSyntax)
	}
	return output(len(s.input.Data), len(s.input.Start), len(s.input.Draws))
}

func (s *Session) check(words []string) []any {
	if len(words) > 0 {
		return output(api.ErrSyntax)
	}
	if code := conf.Input(s.input); code != api.OK {
		return output(code)
	}
	return output("ok")
}

func (s *Session) run(words []string) []any {
	if len(words) != 1 {
		return output(api.ErrSyntax)
	}
	// The mode 0 of other names is refused by train.Run, behind an input that is not right.
	mode, _ := train.Mode(words[0])
	r, code := train.Run(s.input, mode)
	if code != api.OK {
		return output(code)
	}
	s.report, s.ran = r, true
	return output("ok", len(r.States))
}

// state reads the number of a state of the report, and returns it and api.OK; or 0 and a code.
func (s *Session) state(words []string) (int, api.Code) {
	l, ok := read(words, number)
	switch {
	case !ok || len(l) != 1:
		return 0, api.ErrSyntax
	case !s.ran:
		return 0, api.ErrState
	case l[0] >= len(s.report.States):
		return 0, api.ErrRange
	}
	return l[0], api.OK
}

func (s *Session) show(words []string) []any {
	t, code := s.state(words)
	if code != api.OK {
		return output(code)
	}
	line, _ := s.report.Line(t)
	return output(line)
}

func (s *Session) best(words []string) []any {
	if len(words) > 0 {
		return output(api.ErrSyntax)
	}
	if !s.ran {
		return output(api.ErrState)
	}
	t, _ := s.report.Best()
	return output(t)
}

func (s *Session) params(words []string) []any {
	t, code := s.state(words)
	if code != api.OK {
		return output(code)
	}
	var texts []any
	for _, x := range s.report.States[t].P {
		texts = append(texts, deci.Text(x, s.report.Shift))
	}
	return texts
}

func (s *Session) picks(words []string) []any {
	l, ok := read(words, number)
	if !ok {
		return output(api.ErrSyntax)
	}
	r, code := bound.Progress(s.input, l...)
	if code != api.OK {
		return output(code)
	}
	return output(r.Effective, r.Left, r.Idle, r.Done)
}

func (s *Session) bound(words []string) []any {
	if len(words) > 0 {
		return output(api.ErrSyntax)
	}
	c, params := s.input.Config, len(s.input.Start)
	return output(bound.Steps(c, params), bound.Picks(c, params))
}
