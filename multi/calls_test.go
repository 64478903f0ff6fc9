package multi_test

import (
	"fmt"
	"slices"
	"testing"

	"carillon/api"
	"carillon/cell"
	"carillon/multi"
	"carillon/plain"
	"carillon/turn"
)

const end = api.MostSequence

// told is all that a call may answer.
type told struct {
	n   int64
	err api.Errno
}

var (
	done    = told{}
	foreign = told{err: api.ErrRange}
	full    = told{err: api.ErrFull}
	ended   = told{err: api.ErrEnd}
)

func number(n int64) told { return told{n: n} }

type call = func(m *multi.Multi, s turn.Stepper) told

func claim(h multi.Holder, n int64) call {
	return func(m *multi.Multi, s turn.Stepper) told {
		last, err := m.Claim(s, h, n)
		return told{last, err}
	}
}

func write(q, v int64) call {
	return func(m *multi.Multi, s turn.Stepper) told { return told{err: m.Write(s, q, v)} }
}

func offer(h multi.Holder, values ...int64) call {
	return func(m *multi.Multi, s turn.Stepper) told {
		last, err := m.Offer(s, h, values...)
		return told{last, err}
	}
}

func published(from int64) call {
	return func(m *multi.Multi, s turn.Stepper) told { return number(m.Published(s, from)) }
}

func cursor(m *multi.Multi, s turn.Stepper) told { return number(m.Cursor(s)) }

// half does so many of a call's steps, and is ended there.
func half(do call, steps int) call {
	return func(m *multi.Multi, _ turn.Stepper) told {
		turn.Alone(turn.NewCounter(steps), func(s turn.Stepper) { do(m, s) })
		return done
	}
}

// all does one behind the other.
func all(calls ...call) call {
	return func(m *multi.Multi, _ turn.Stepper) told {
		for _, do := range calls {
			do(m, nil)
		}
		return done
	}
}

// fixed is a Holder that tells one number, without a step.
type fixed int64

func (f fixed) Least(turn.Stepper, int64) (int64, int) { return int64(f), 0 }

// readers are a Holder who loads each one's word.
type readers []cell.Word

func (all readers) Least(s turn.Stepper, none int64) (int64, int) {
	least := none
	for i := range all {
		n := all[i].Load(s)
		if i == 0 || n < least {
			least = n
		}
	}
	return least, 0
}

func at(numbers ...int64) readers {
	all := make(readers, len(numbers))
	for i, n := range numbers {
		all[i].Store(nil, n)
	}
	return all
}

// finish lays up to where a reader has come.
func (all readers) finish(i int, q int64) call {
	return func(_ *multi.Multi, s turn.Stepper) told {
		all[i].Store(s, q)
		return done
	}
}

// look is all that there is in a ring.
func look(m *multi.Multi) string {
	if m.Size() == 0 {
		return "none"
	}
	return state(m.Cursor(nil), m.Seen(), m.Ring().Stamps(), m.Ring().Values())
}

func state(cursor, seen int64, stamps, values []int64) string {
	return fmt.Sprint(cursor, seen, stamps, values)
}

func ring(size int, first int64) *multi.Multi {
	m, _ := multi.New(size, first)
	return m
}

// after is a ring for which these have been called.
func after(size int, first int64, calls ...call) *multi.Multi {
	m := ring(size, first)
	all(calls...)(m, nil)
	return m
}

// valueOf is what stands at a sequence that was counted.
func valueOf(q int64) int64 { return 100 + q }

// counted are so many values, from a sequence on.
func counted(from int64, n int) []int64 {
	var all []int64
	for i := range int64(n) {
		all = append(all, valueOf(from+i))
	}
	return all
}

// check holds a call's answer, its steps, when it is alone, and what it leaves against these.
func check(t *testing.T, m *multi.Multi, name string, do call, want told, steps int, after string) {
	t.Helper()
	before, counter := look(m), turn.NewCounter(api.MostSteps)
	if got := do(m, counter); got != want || counter.Steps() != steps || look(m) != after {
		t.Errorf("%s of %s: %+v in %d steps, leaves %s; want %+v in %d, %s", name, before, got, counter.Steps(), look(m), want, steps, after)
	}
}

// checkStill holds a call that has no step, and leaves all as it was, whether a Stepper is there or not.
func checkStill(t *testing.T, m *multi.Multi, name string, do call, want told) {
	t.Helper()
	before := look(m)
	check(t, m, name, do, want, 0, before)
	if got := do(m, nil); got != want || look(m) != before {
		t.Errorf("%s of %s without a Stepper: %+v, leaves %s", name, before, got, look(m))
	}
	if !turn.Alone(turn.NewCounter(0), func(s turn.Stepper) { do(m, s) }) {
		t.Errorf("%s of %s has done a step, or has panicked", name, before)
	}
}

// watched is a call, what it answers, and what is to be seen ahead of each of its steps, and at the end; ahead of some of them others come between.
type watched struct {
	name   string
	from   func() *multi.Multi
	call   call
	others map[int]call
	want   told
	states []string
}

func (x watched) check(t *testing.T) {
	t.Helper()
	m, between := x.from(), map[int]func(){}
	for step, other := range x.others {
		between[step] = func() { other(m, nil) }
	}
	var got told
	states := plain.Watched(func() string { return look(m) }, between, func(s turn.Stepper) { got = x.call(m, s) })
	if got != x.want || !slices.Equal(states, x.states) {
		t.Errorf("%s: %+v, %q; want %+v, %q", x.name, got, states, x.want, x.states)
	}
}

// checkEnds: without a Stepper the answer is the same; and a thread that is ended at a step has done those ahead of it, and nothing that lies behind.
func (x watched) checkEnds(t *testing.T) {
	t.Helper()
	last := len(x.states) - 1
	m := x.from()
	if got := x.call(m, nil); got != x.want || look(m) != x.states[last] {
		t.Error(x.name, "without a Stepper", got, look(m))
	}
	for most, after := range x.states[:last] {
		m = x.from()
		if turn.Alone(turn.NewCounter(most), func(s turn.Stepper) { x.call(m, s) }) || look(m) != after {
			t.Error(x.name, "ended behind", most, look(m))
		}
	}
}
