package slots_test

import (
	"fmt"
	"slices"
	"testing"

	"carillon/api"
	"carillon/plain"
	"carillon/slots"
	"carillon/turn"
)

const (
	crowd = 8
	end   = api.MostSequence
)

// told is all that a call may answer.
type told struct {
	n    int64
	yes  bool
	list []int64
	err  api.Errno
}

func same(a, b told) bool {
	return a.n == b.n && a.yes == b.yes && a.err == b.err && slices.Equal(a.list, b.list)
}

var (
	done    = told{}
	lies    = told{yes: true}
	no      = told{}
	foreign = told{err: api.ErrRange}
	none    = told{err: api.ErrNone}
	lost    = told{err: api.ErrLost}
)

func number(n int64) told     { return told{n: n} }
func items(all ...int64) told { return told{list: all} }

type call = func(r *slots.Ring, s turn.Stepper) told

func put(q, v int64) call {
	return func(r *slots.Ring, s turn.Stepper) told { return told{err: r.Put(s, q, v)} }
}

func get(q int64) call {
	return func(r *slots.Ring, s turn.Stepper) told {
		v, err := r.Get(s, q)
		return told{n: v, err: err}
	}
}

func there(q int64) call {
	return func(r *slots.Ring, s turn.Stepper) told { return told{yes: r.There(s, q)} }
}

func highest(from, to int64) call {
	return func(r *slots.Ring, s turn.Stepper) told { return told{n: r.Highest(s, from, to)} }
}

func gather(from int64, most int) call {
	return func(r *slots.Ring, s turn.Stepper) told {
		list, err := r.Gather(s, from, most)
		return told{list: list, err: err}
	}
}

// all does one behind the other.
func all(calls ...call) call {
	return func(r *slots.Ring, s turn.Stepper) told {
		for _, do := range calls {
			do(r, s)
		}
		return done
	}
}

// half does so many of a call's steps, and is ended there.
func half(do call, steps int) call {
	return func(r *slots.Ring, _ turn.Stepper) told {
		turn.Alone(turn.NewCounter(steps), func(s turn.Stepper) { do(r, s) })
		return done
	}
}

// look is all that is to be seen without a step.
func look(r *slots.Ring) string { return state(r.Stamps(), r.Values()) }

func state(stamps, values []int64) string { return fmt.Sprint(stamps, values) }

func empty(size int) *slots.Ring {
	r, _ := slots.New(size)
	return r
}

// filled is a ring with these at the sequences from 0 on.
func filled(size int, values ...int64) *slots.Ring {
	r := empty(size)
	for q, v := range values {
		r.Put(nil, int64(q), v)
	}
	return r
}

// valueOf is what stamped puts at a sequence.
func valueOf(q int64) int64 { return 100 + q }

// stamped is a ring whose slots have these stamps, each from -2 on. Where a lap is being laid, the value is that of the one ahead of it.
func stamped(stamps ...int64) *slots.Ring {
	r := empty(len(stamps))
	for i, stamp := range stamps {
		q := func(lap int64) int64 { return lap*int64(len(stamps)) + int64(i) }
		lap := (stamp + 2) / 2
		if lap > 0 {
			r.Put(nil, q(lap-1), valueOf(q(lap-1)))
		}
		if stamp%2 != 0 {
			half(put(q(lap), 0), 1)(r, nil)
		}
	}
	return r
}

// everyStamps hands on each list of so many stamps from -2 to most.
func everyStamps(size int, most int64, see func(stamps []int64)) {
	stamps := slices.Repeat([]int64{-2}, size)
	for {
		see(stamps)
		i := 0
		for i < size && stamps[i] == most {
			stamps[i] = -2
			i++
		}
		if i == size {
			return
		}
		stamps[i]++
	}
}

// check holds a call's answer, its steps, when it is alone, and what it leaves against these.
func check(t *testing.T, r *slots.Ring, name string, do call, want told, steps int, after string) {
	t.Helper()
	before, counter := look(r), turn.NewCounter(api.MostSteps)
	if got := do(r, counter); !same(got, want) || counter.Steps() != steps || look(r) != after {
		t.Errorf("%s of %s: %+v in %d steps, leaves %s; want %+v in %d, %s", name, before, got, counter.Steps(), look(r), want, steps, after)
	}
}

// watched is a call, what it answers, and what is to be seen ahead of each of its steps, and at the end; ahead of some of them others come between.
type watched struct {
	name   string
	from   func() *slots.Ring
	call   call
	others map[int]call
	want   told
	states []string
}

func (x watched) check(t *testing.T) {
	t.Helper()
	r, between := x.from(), map[int]func(){}
	for at, other := range x.others {
		between[at] = func() { other(r, nil) }
	}
	var got told
	states := plain.Watched(func() string { return look(r) }, between, func(s turn.Stepper) { got = x.call(r, s) })
	if !same(got, x.want) || !slices.Equal(states, x.states) {
		t.Errorf("%s: %+v, %q; want %+v, %q", x.name, got, states, x.want, x.states)
	}
}

// checkEnds: without a Stepper the answer is the same; and a thread that is ended at a step has done those ahead of it, and nothing that lies behind.
func (x watched) checkEnds(t *testing.T) {
	t.Helper()
	last := len(x.states) - 1
	r := x.from()
	if got := x.call(r, nil); !same(got, x.want) || look(r) != x.states[last] {
		t.Error(x.name, "without a Stepper", got, look(r))
	}
	for most, after := range x.states[:last] {
		r = x.from()
		if turn.Alone(turn.NewCounter(most), func(s turn.Stepper) { x.call(r, s) }) || look(r) != after {
			t.Error(x.name, "ended behind", most, look(r))
		}
	}
}

// together lets so many goroutines go at one time.
func together(do func(n int)) {
	threads := make([]func(s turn.Stepper), crowd)
	for n := range threads {
		threads[n] = func(turn.Stepper) { do(n) }
	}
	turn.Go(threads)
}

// scribble writes over a list, its spare room too.
func scribble(list []int64) {
	for i := range list[:cap(list)] {
		list[:cap(list)][i] = -9
	}
}
