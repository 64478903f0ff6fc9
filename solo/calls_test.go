package solo_test

import (
	"fmt"
	"slices"
	"testing"

	"carillon/api"
	"carillon/plain"
	"carillon/solo"
	"carillon/turn"
)

const end = api.MostSequence

// told is all that a call may answer.
type told struct {
	n    int64
	list []int64
	err  api.Errno
}

func same(a, b told) bool { return a.n == b.n && a.err == b.err && slices.Equal(a.list, b.list) }

var (
	done    = told{}
	foreign = told{err: api.ErrRange}
	full    = told{err: api.ErrFull}
	empty   = told{err: api.ErrEmpty}
	none    = told{err: api.ErrNone}
)

func number(n int64) told     { return told{n: n} }
func items(all ...int64) told { return told{list: all} }

type call = func(r *solo.Solo, s turn.Stepper) told

func claim(n int) call {
	return func(r *solo.Solo, s turn.Stepper) told {
		q, err := r.Claim(s, n)
		return told{n: q, err: err}
	}
}

func put(q, v int64) call {
	return func(r *solo.Solo, s turn.Stepper) told { return told{err: r.Put(s, q, v)} }
}

func publish(q int64) call {
	return func(r *solo.Solo, s turn.Stepper) told { return told{err: r.Publish(s, q)} }
}

func write(values ...int64) call {
	return func(r *solo.Solo, s turn.Stepper) told {
		q, err := r.Write(s, values...)
		return told{n: q, err: err}
	}
}

func read(k int) call {
	return func(r *solo.Solo, s turn.Stepper) told {
		v, err := r.Read(s, k)
		return told{n: v, err: err}
	}
}

func batch(k, most int) call {
	return func(r *solo.Solo, s turn.Stepper) told {
		list, err := r.Batch(s, k, most)
		return told{list: list, err: err}
	}
}

// half does so many of a call's steps, and is ended there.
func half(do call, steps int) call {
	return func(r *solo.Solo, _ turn.Stepper) told {
		turn.Alone(turn.NewCounter(steps), func(s turn.Stepper) { do(r, s) })
		return done
	}
}

// look is all that is to be seen without a step.
func look(r *solo.Solo) string {
	next, cursor, numbers := r.State()
	return state(next, cursor, numbers...)
}

func state(next, cursor int64, numbers ...int64) string { return fmt.Sprint(next, cursor, numbers) }

func ring(size, readers int) *solo.Solo {
	r, _ := solo.New(size, readers)
	return r
}

// after is a ring for which these have been called.
func after(size, readers int, calls ...call) *solo.Solo {
	r := ring(size, readers)
	for _, do := range calls {
		do(r, nil)
	}
	return r
}

// valueOf is what stands at a sequence that count has written.
func valueOf(q int64) int64 { return 100 + q }

// counted are so many values, from a sequence on.
func counted(from int64, n int) []int64 {
	var all []int64
	for i := range int64(n) {
		all = append(all, valueOf(from+i))
	}
	return all
}

// check holds a call's answer, its steps, when it is alone, and what it leaves against these.
func check(t *testing.T, r *solo.Solo, name string, do call, want told, steps int, after string) {
	t.Helper()
	before, counter := look(r), turn.NewCounter(api.MostSteps)
	if got := do(r, counter); !same(got, want) || counter.Steps() != steps || look(r) != after {
		t.Errorf("%s of %s: %+v in %d steps, leaves %s; want %+v in %d, %s", name, before, got, counter.Steps(), look(r), want, steps, after)
	}
}

// refuses holds a call against a refusal that has no step and leaves all as it was, whether a Stepper is there or not.
func refuses(t *testing.T, r *solo.Solo, name string, do call, want told) {
	t.Helper()
	before := look(r)
	check(t, r, name, do, want, 0, before)
	if got := do(r, nil); !same(got, want) || look(r) != before {
		t.Errorf("%s of %s without a Stepper: %+v, leaves %s", name, before, got, look(r))
	}
	if !turn.Alone(turn.NewCounter(0), func(s turn.Stepper) { do(r, s) }) {
		t.Errorf("%s of %s has done a step, or has panicked", name, before)
	}
}

// watched is a call, what it answers, and what is to be seen ahead of each of its steps, and at the end; ahead of some of them others come between.
type watched struct {
	name   string
	from   func() *solo.Solo
	call   call
	others map[int]call
	want   told
	states []string
}

func (x watched) check(t *testing.T) {
	t.Helper()
	r, between := x.from(), map[int]func(){}
	for at, other := range x.others {
		between[at] = func() { other(r, nil) }
	}
	var got told
	states := plain.Watched(func() string { return look(r) }, between, func(s turn.Stepper) { got = x.call(r, s) })
	if !same(got, x.want) || !slices.Equal(states, x.states) {
		t.Errorf("%s: %+v, %q; want %+v, %q", x.name, got, states, x.want, x.states)
	}
}

// checkEnds: without a Stepper the answer is the same; and a thread that is ended at a step has done those ahead of it, and nothing that lies behind.
func (x watched) checkEnds(t *testing.T) {
	t.Helper()
	last := len(x.states) - 1
	r := x.from()
	if got := x.call(r, nil); !same(got, x.want) || look(r) != x.states[last] {
		t.Error(x.name, "without a Stepper", got, look(r))
	}
	for most, after := range x.states[:last] {
		r = x.from()
		if turn.Alone(turn.NewCounter(most), func(s turn.Stepper) { x.call(r, s) }) || look(r) != after {
			t.Error(x.name, "ended behind", most, look(r))
		}
	}
}

// scribble writes over a list, its spare room too.
func scribble(list []int64) {
	for i := range list[:cap(list)] {
		list[:cap(list)][i] = -9
	}
}
