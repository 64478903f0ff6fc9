package barrier_test

import (
	"fmt"
	"testing"

	"carillon/api"
	"carillon/barrier"
	"carillon/cell"
	"carillon/turn"
)

// crowd is how many goroutines go at one time.
const crowd = 8

// told is all that a call may answer.
type told struct {
	n   int64
	yes bool
	err api.Errno
}

var (
	done    = told{yes: true}
	not     = told{}
	closed  = told{err: api.ErrClosed}
	empty   = told{err: api.ErrEmpty}
	away    = told{err: api.ErrNone}
	foreign = told{err: api.ErrKind}
)

func number(n int64) told { return told{n: n} }

// ways are the three of them.
func ways() []barrier.Way { return []barrier.Way{barrier.Eager, barrier.Lean, barrier.Rare} }

// hall is some words, and the barrier whose sources they are.
type hall struct {
	words []*cell.Word
	b     *barrier.Barrier
}

// source is one of a hall's words; it tells a watch that it was the one that was loaded.
type source struct {
	word *cell.Word
	name byte
}

func (x source) Load(s turn.Stepper) int64 {
	n := x.word.Load(s)
	if w, ok := s.(*watch); ok {
		w.trail[len(w.trail)-1] = x.name
	}
	return n
}

// over is a hall of words with these numbers: the first one is the cursor.
func over(numbers ...int64) *hall {
	h, all := &hall{}, []barrier.Source(nil)
	for i, n := range numbers {
		h.words = append(h.words, cell.NewWord(n))
		all = append(all, source{h.words[i], byte('0' + i)})
	}
	if len(all) == 0 {
		h.b = barrier.New(nil)
		return h
	}
	h.b = barrier.New(all[0], all[1:]...)
	return h
}

type call = func(h *hall, s turn.Stepper) told

func wait(q int64, tries int, way barrier.Way) call {
	return func(h *hall, s turn.Stepper) told {
		n, err := h.b.Wait(s, q, tries, way)
		return told{n: n, err: err}
	}
}

func limit(h *hall, s turn.Stepper) told   { return number(h.b.Limit(s)) }
func alert(h *hall, s turn.Stepper) told   { return told{yes: h.b.Alert(s)} }
func calm(h *hall, s turn.Stepper) told    { return told{yes: h.b.Clear(s)} }
func alerted(h *hall, s turn.Stepper) told { return told{yes: h.b.Alerted(s)} }

// put lays a source's number.
func put(i int, v int64) call {
	return func(h *hall, s turn.Stepper) told {
		h.words[i].Store(s, v)
		return done
	}
}

// all does one behind the other.
func all(calls ...call) call {
	return func(h *hall, _ turn.Stepper) told {
		for _, do := range calls {
			do(h, nil)
		}
		return done
	}
}

// look is all that there is: the words, and the alert.
func look(h *hall) string {
	var numbers []int64
	for _, w := range h.words {
		numbers = append(numbers, w.Value())
	}
	return state(h.b.Alerted(nil), numbers...)
}

func state(alert bool, numbers ...int64) string { return fmt.Sprint(numbers, alert) }

// watch is the Stepper of a call that is watched. Its trail has a byte for each step: the source that was loaded, or a where it was none: there is nothing but the alert then. Ahead of some steps, of these numbers from 1 on, others come between.
type watch struct {
	under   turn.Stepper
	between map[int]func()
	trail   []byte
}

func (w *watch) Step() {
	if w.under != nil {
		w.under.Step()
	}
	w.trail = append(w.trail, 'a')
	if other := w.between[len(w.trail)]; other != nil {
		other()
	}
}

// check holds a call's answer, what it steps at, and what it leaves against these.
func check(t *testing.T, h *hall, name string, do call, want told, trail, after string) {
	t.Helper()
	before, w := look(h), &watch{}
	if got := do(h, w); got != want || string(w.trail) != trail || look(h) != after {
		t.Errorf("%s of %s: %+v by %q, leaves %s; want %+v by %q, %s", name, before, got, w.trail, look(h), want, trail, after)
	}
}

// checkLooks holds a call that changes nothing.
func checkLooks(t *testing.T, h *hall, name string, do call, want told, trail string) {
	t.Helper()
	check(t, h, name, do, want, trail, look(h))
	if got := do(h, nil); got != want {
		t.Errorf("%s of %s without a Stepper: %+v; want %+v", name, look(h), got, want)
	}
}

// checkStill holds a call that has no step besides.
func checkStill(t *testing.T, h *hall, name string, do call, want told) {
	t.Helper()
	checkLooks(t, h, name, do, want, "")
	if !turn.Alone(turn.NewCounter(0), func(s turn.Stepper) { do(h, s) }) {
		t.Errorf("%s of %s has done a step, or has panicked", name, look(h))
	}
}

// watched is a call, what it answers, what it steps at, and what there is at the end; ahead of some steps others come between.
type watched struct {
	name   string
	from   func() *hall
	call   call
	others map[int]call
	want   told
	trail  string
	after  string
}

func (x watched) check(t *testing.T) {
	t.Helper()
	h := x.from()
	w := &watch{between: map[int]func(){}}
	for step, other := range x.others {
		w.between[step] = func() { other(h, nil) }
	}
	if got := x.call(h, w); got != x.want || string(w.trail) != x.trail || look(h) != x.after {
		t.Errorf("%s: %+v by %q, leaves %s; want %+v by %q, %s", x.name, got, w.trail, look(h), x.want, x.trail, x.after)
	}
}

// checkEnds: without a Stepper the answer is the same; and a thread that is ended at a step has done those ahead of it, and nothing that lies behind.
func (x watched) checkEnds(t *testing.T) {
	t.Helper()
	h := x.from()
	if got := x.call(h, nil); got != x.want || look(h) != x.after {
		t.Error(x.name, "without a Stepper", got, look(h))
	}
	for most := range len(x.trail) {
		h = x.from()
		before, w := look(h), &watch{}
		back := turn.Alone(turn.NewCounter(most), func(s turn.Stepper) {
			w.under = s
			x.call(h, w)
		})
		if back || string(w.trail) != x.trail[:most] || look(h) != before {
			t.Errorf("%s, ended behind %d steps: %q, leaves %s", x.name, most, w.trail, look(h))
		}
	}
}

// together lets so many goroutines go at one time.
func together(do func(n int)) {
	threads := make([]func(s turn.Stepper), crowd)
	for n := range threads {
		threads[n] = func(turn.Stepper) { do(n) }
	}
	turn.Go(threads)
}
