package ticket_test

import (
	"math"
	"slices"
	"testing"

	"carillon/api"
	"carillon/ticket"
	"carillon/turn"
)

const crowd = 8

// both are a lock and a gate.
type both struct {
	lock *ticket.Lock
	gate *ticket.Gate
}

func fresh() both { return both{ticket.New(), ticket.NewGate()} }

// at are a lock and a gate whose places hold these, from 0 on; of the word from -1 on.
func at(next, serving, word int64) both {
	b := fresh()
	for range next {
		b.lock.Draw(nil)
	}
	for n := range serving {
		b.lock.Leave(nil, n)
	}
	for range word {
		b.gate.ReadIn(nil, 1)
	}
	if word < 0 {
		b.gate.WriteIn(nil, 1)
	}
	return b
}

// look is all that is to be seen without a step: next, serving and the word.
func (b both) look() []int64 {
	next, serving := b.lock.Numbers()
	return []int64{next, serving, b.gate.Word()}
}

type call = func(b both, s turn.Stepper) api.Answer

func draw(b both, s turn.Stepper) api.Answer { return api.Answer{N: b.lock.Draw(s)} }

func called(n int64, tries int) call {
	return func(b both, s turn.Stepper) api.Answer { return truth(b.lock.Called(s, n, tries)) }
}

func leave(n int64) call {
	return func(b both, s turn.Stepper) api.Answer { return truth(b.lock.Leave(s, n)) }
}

func try(tries int) call {
	return func(b both, s turn.Stepper) api.Answer {
		n, ok := b.lock.Try(s, tries)
		return api.Answer{OK: ok, N: n}
	}
}

func readIn(tries int) call {
	return func(b both, s turn.Stepper) api.Answer { return truth(b.gate.ReadIn(s, tries)) }
}

func readOut(b both, s turn.Stepper) api.Answer { return truth(b.gate.ReadOut(s)) }

func writeIn(tries int) call {
	return func(b both, s turn.Stepper) api.Answer { return truth(b.gate.WriteIn(s, tries)) }
}

func writeOut(b both, s turn.Stepper) api.Answer { return truth(b.gate.WriteOut(s)) }

// half does so many of a call's steps, and is ended there.
func half(do call, steps int) call {
	return func(b both, _ turn.Stepper) api.Answer {
		turn.Alone(turn.NewCounter(steps), func(s turn.Stepper) { do(b, s) })
		return nothing
	}
}

// all does one behind the other.
func all(calls ...call) call {
	return func(b both, s turn.Stepper) api.Answer {
		for _, do := range calls {
			do(b, s)
		}
		return nothing
	}
}

func alike(a, b api.Answer) bool {
	return a.OK == b.OK && a.N == b.N && slices.Equal(a.List, b.List)
}

// tries are numbers of tries, and what they count as.
func tries() map[int]int {
	return map[int]int{
		math.MinInt: 1, -1 << 32: 1, -1 << 31: 1, -1: 1, 0: 1, 1: 1, 2: 2, 3: 3, 1023: 1023, 1024: 1024,
		1025: 1024, 1 << 20: 1024, 1 << 32: 1024, 1<<32 + 1: 1024, math.MaxInt: 1024,
	}
}

// check holds a call's answer, its steps, when it is alone, and what it leaves against these.
func check(t *testing.T, b both, name string, do call, answer api.Answer, steps int, after ...int64) {
	t.Helper()
	before, counter := b.look(), turn.NewCounter(api.MostSteps)
	if got := do(b, counter); !alike(got, answer) || counter.Steps() != steps || !slices.Equal(b.look(), after) {
		t.Errorf("%s of %v: %+v in %d steps, leaves %v; want %+v in %d, %v", name, before, got, counter.Steps(), b.look(), answer, steps, after)
	}
}

// watcher logs ahead of each step what is to be seen by then; at some of them something comes between behind the look.
type watcher struct {
	both both
	log  [][]int64
	at   map[int]call
}

func (w *watcher) Step() {
	w.log = append(w.log, w.both.look())
	if do := w.at[len(w.log)]; do != nil {
		do(w.both, nil)
	}
}

// between is a call ahead of some of whose steps others come between.
type between struct {
	name   string
	from   both
	call   call
	others map[int]call
	answer api.Answer
	steps  int
	after  []int64
}

func (x between) check(t *testing.T) {
	t.Helper()
	w := &watcher{both: x.from, at: x.others}
	if got := x.call(x.from, w); !alike(got, x.answer) || len(w.log) != x.steps || !slices.Equal(x.from.look(), x.after) {
		t.Errorf("%s: %+v in %d steps, leaves %v; want %+v in %d, %v", x.name, got, len(w.log), x.from.look(), x.answer, x.steps, x.after)
	}
}

// ordered is a call, and what is to be seen ahead of each of its steps, and at the end.
type ordered struct {
	name   string
	from   []int64
	call   call
	answer api.Answer
	states [][]int64
}

func (x ordered) start() both { return at(x.from[0], x.from[1], x.from[2]) }

// check looks ahead of each step, and behind the last: Step is called right ahead of it, and without a Stepper the answers are the same. A thread that is ended at a step has done those ahead of it, and nothing that lies behind.
func (x ordered) check(t *testing.T) {
	t.Helper()
	b := x.start()
	w := &watcher{both: b}
	if got := x.call(b, w); !alike(got, x.answer) || !slices.EqualFunc(append(w.log, b.look()), x.states, slices.Equal) {
		t.Error(x.name, got, w.log, b.look())
	}
	b = x.start()
	if got := x.call(b, nil); !alike(got, x.answer) || !slices.Equal(b.look(), x.states[len(x.states)-1]) {
		t.Error(x.name, "without a Stepper", got, b.look())
	}
	for most, after := range x.states[:len(x.states)-1] {
		b = x.start()
		if turn.Alone(turn.NewCounter(most), func(s turn.Stepper) { x.call(b, s) }) || !slices.Equal(b.look(), after) {
			t.Error(x.name, "ended behind", most, b.look())
		}
	}
}

// calls are some of every kind.
func calls() map[string]call {
	return map[string]call{
		"Draw": draw, "Called": called(0, 1), "Called of -1": called(-1, 2), "Called of the greatest": called(math.MaxInt64, math.MaxInt), "Called of tries 0": called(1, 0),
		"Leave": leave(0), "Leave of -1": leave(-1), "Leave of the least": leave(math.MinInt64), "Leave of the greatest": leave(math.MaxInt64),
		"Try": try(1), "Try of tries -1": try(-1), "Try of all tries": try(math.MaxInt),
		"ReadIn": readIn(1), "ReadIn of tries -1": readIn(-1), "ReadIn of all tries": readIn(math.MaxInt), "ReadOut": readOut,
		"WriteIn": writeIn(1), "WriteIn of tries 0": writeIn(0), "WriteIn of all tries": writeIn(math.MaxInt), "WriteOut": writeOut,
	}
}

// TestNew: of a new lock no ticket is drawn, by a new gate nobody is in, and two of them share nothing.
func TestNew(t *testing.T) {
	one, two := fresh(), fresh()
	for range 2 {
		if !slices.Equal(one.look(), []int64{0, 0, 0}) {
			t.Error(one.look())
		}
	}
	all(draw, draw, leave(0), writeIn(1))(one, nil)
	if !slices.Equal(one.look(), []int64{2, 1, -1}) || !slices.Equal(two.look(), []int64{0, 0, 0}) {
		t.Error(one.look(), two.look())
	}
}

// TestNil is P9.11: all answer zero; a Step would end the thread.
func TestNil(t *testing.T) {
	none := both{}
	if !slices.Equal(none.look(), []int64{0, 0, 0}) {
		t.Error(none.look())
	}
	for name, do := range calls() {
		if back := turn.Alone(turn.NewCounter(0), func(s turn.Stepper) {
			if got, bare := do(none, s), do(none, nil); !alike(got, nothing) || !alike(bare, nothing) {
				t.Error(name, got, bare)
			}
		}); !back {
			t.Error(name, "has done a step, or has panicked")
		}
	}
}

// TestZero is P9.11: the zero ones are new ones.
func TestZero(t *testing.T) {
	for name, do := range calls() {
		for ahead, before := range calls() {
			zero, one := both{&ticket.Lock{}, &ticket.Gate{}}, fresh()
			if !slices.Equal(zero.look(), one.look()) {
				t.Error(zero.look())
			}
			before(zero, turn.NewCounter(9999))
			before(one, turn.NewCounter(9999))
			a, b := turn.NewCounter(9999), turn.NewCounter(9999)
			if !alike(do(zero, a), do(one, b)) || a.Steps() != b.Steps() || a.Steps() == 0 || !slices.Equal(zero.look(), one.look()) {
				t.Error(ahead, "and then", name, zero.look(), one.look(), a.Steps(), b.Steps())
			}
		}
	}
}

// together lets so many goroutines go at one time.
func together(do func(n int)) {
	threads := make([]func(s turn.Stepper), crowd)
	for n := range threads {
		threads[n] = func(turn.Stepper) { do(n) }
	}
	turn.Go(threads)
}
