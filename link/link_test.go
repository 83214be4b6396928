package link_test

import (
	"math"
	"slices"
	"testing"

	"sakia/api"
	"sakia/link"
)

const (
	top = math.MaxInt
	low = math.MinInt
)

// message returns a message with a number in its tag and its values.
func message(n int) api.Message {
	return api.Message{Tag: api.Tag{Step: n, Chunk: n % 3}, Values: []int64{int64(n), -int64(n)}}
}

func same(a, b api.Message) bool {
	return a.Tag == b.Tag && slices.Equal(a.Values, b.Values)
}

func empty(m api.Message) bool {
	return m.Tag == (api.Tag{}) && len(m.Values) == 0
}

// expect checks all that a link tells.
func expect(t *testing.T, l *link.Link, capacity, peak, sent int, numbers ...int) {
	t.Helper()
	a, b := l.Counts()
	if l.Cap() != capacity || l.Peak() != peak || l.Len() != len(numbers) || a != sent || b != sent-len(numbers) {
		t.Fatal(l.Cap(), l.Peak(), l.Len(), a, b)
	}
	var want []api.Message
	for _, n := range numbers {
		want = append(want, message(n))
	}
	if got := l.Messages(); !slices.EqualFunc(got, want, same) {
		t.Fatal(got)
	}
	first, ok := l.Peek()
	if ok != (len(numbers) > 0) || !ok && first != (api.Tag{}) || ok && first != want[0].Tag {
		t.Fatal(first, ok)
	}
}

// TestNew covers the New of P18.1.
func TestNew(t *testing.T) {
	for _, n := range []int{1, 2, 1000, api.MaxSize} {
		expect(t, link.New(n), n, 0, 0)
	}
	for _, n := range []int{0, -1, low, api.MaxSize + 1, top} {
		if link.New(n) != nil {
			t.Error(n)
		}
	}
}

// TestSend covers the Send of P18.1.
func TestSend(t *testing.T) {
	l := link.New(1)
	if code := l.Send(message(5)); code != api.OK {
		t.Error(code)
	}
	expect(t, l, 1, 1, 1, 5)
	for range 2 {
		if code := l.Send(message(6)); code != api.ErrFull {
			t.Error(code)
		}
		expect(t, l, 1, 1, 1, 5)
	}
	if m, code := l.Receive(message(5).Tag); code != api.OK || !same(m, message(5)) {
		t.Error(m, code)
	}
	expect(t, l, 1, 1, 1)
	if code := l.Send(message(7)); code != api.OK {
		t.Error(code)
	}
	expect(t, l, 1, 1, 2, 7)
}

// TestReceive covers P18.2.
func TestReceive(t *testing.T) {
	l := link.New(3)
	if m, code := l.Receive(api.Tag{}); code != api.ErrEmpty || !empty(m) {
		t.Error(m, code)
	}
	l.Send(message(1))
	l.Send(message(2))
	for i, x := range []api.Tag{message(2).Tag, {}, {Step: 1}, {Step: 1, Chunk: 1, Bucket: 1}, {Step: 1, Chunk: 1, Phase: 1}, {Step: 1, Chunk: 1, Round: 1}, {Step: low, Chunk: top}} {
		if m, code := l.Receive(x); code != api.ErrTag || !empty(m) {
			t.Error(i, m, code)
		}
		expect(t, l, 3, 2, 2, 1, 2)
	}
	for _, n := range []int{1, 2} {
		if m, code := l.Receive(message(n).Tag); code != api.OK || !same(m, message(n)) {
			t.Error(m, code)
		}
	}
	if m, code := l.Receive(message(2).Tag); code != api.ErrEmpty || !empty(m) {
		t.Error(m, code)
	}
	expect(t, l, 3, 2, 2)
}

// TestAnyMessage: tags need not be right, and there may be no values.
func TestAnyMessage(t *testing.T) {
	l := link.New(2)
	odd := api.Tag{Step: low, Bucket: top, Phase: 7, Round: -5, Chunk: 1 << 40}
	l.Send(api.Message{Tag: odd})
	l.Send(api.Message{Values: []int64{}})
	if m, code := l.Receive(odd); code != api.OK || m.Tag != odd || len(m.Values) != 0 {
		t.Error(m, code)
	}
	if m, code := l.Receive(api.Tag{}); code != api.OK || !empty(m) {
		t.Error(m, code)
	}
}

// TestOrder covers P18.3 and P18.4, with many ways of sending and receiving.
func TestOrder(t *testing.T) {
	for _, capacity := range []int{1, 2, 3, 4, 5, 7, 8, 100} {
		for seed := range uint64(20) {
			checkOrder(t, capacity, seed)
		}
	}
}

func checkOrder(t *testing.T, capacity int, seed uint64) {
	t.Helper()
	l := link.New(capacity)
	sent, peak := 0, 0
	var numbers []int
	x := seed
	for i := range 120 {
		x = x*6364136223846793005 + 1442695040888963407
		bound := uint64(2)
		if i%40 < 20 {
			bound = 5
		}
		if x>>40%bound == 0 && len(numbers) > 0 {
			if m, code := l.Receive(message(numbers[0]).Tag); code != api.OK || !same(m, message(numbers[0])) {
				t.Fatal(m, code)
			}
			numbers = numbers[1:]
		} else {
			code := l.Send(message(sent))
			if (code == api.OK) != (len(numbers) < capacity) || code != api.OK && code != api.ErrFull {
				t.Fatal(code)
			}
			if code == api.OK {
				numbers = append(numbers, sent)
				sent++
			}
		}
		peak = max(peak, len(numbers))
		expect(t, l, capacity, peak, sent, numbers...)
	}
}

// TestGreatest: a link of the greatest capacity holds so many messages.
func TestGreatest(t *testing.T) {
	l := link.New(api.MaxSize)
	for i := range api.MaxSize {
		if code := l.Send(api.Message{Tag: api.Tag{Chunk: i}}); code != api.OK {
			t.Fatal(i, code)
		}
	}
	if code := l.Send(api.Message{}); code != api.ErrFull || l.Len() != api.MaxSize {
		t.Error(code)
	}
	for i := range api.MaxSize {
		if _, code := l.Receive(api.Tag{Chunk: i}); code != api.OK {
			t.Fatal(i, code)
		}
	}
	if l.Len() != 0 || l.Peak() != api.MaxSize {
		t.Error(l.Len(), l.Peak())
	}
}

// TestMemory: messages share no memory with what is given and returned.
func TestMemory(t *testing.T) {
	l := link.New(4)
	m := message(3)
	l.Send(m)
	l.Send(m)
	m.Values[0] = 99
	expect(t, l, 4, 2, 2, 3, 3)
	all := l.Messages()
	all[0].Values[0], all[1].Values[1] = 98, 98
	expect(t, l, 4, 2, 2, 3, 3)
	first, _ := l.Receive(message(3).Tag)
	first.Values[0] = 97
	expect(t, l, 4, 2, 2, 3)
}

// TestNil: on a nil Link, Send and Receive return api.ErrNil, and the others zero values.
func TestNil(t *testing.T) {
	var l *link.Link
	if code := l.Send(message(1)); code != api.ErrNil {
		t.Error(code)
	}
	if m, code := l.Receive(api.Tag{}); code != api.ErrNil || !empty(m) {
		t.Error(m, code)
	}
	expect(t, l, 0, 0, 0)
}
