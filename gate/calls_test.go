package gate_test

import (
	"fmt"
	"slices"
	"testing"

	"carillon/api"
	"carillon/gate"
	"carillon/plain"
	"carillon/turn"
)

const (
	places = api.MostReaders
	crowd  = 8
)

// told is all that a call may answer.
type told struct {
	n     int64
	yes   bool
	place int
	list  string
	err   api.Errno
}

var (
	done    = told{}
	foreign = told{err: api.ErrRange}
	there   = told{err: api.ErrThere}
	away    = told{err: api.ErrNone}
	allowed = told{yes: true, place: -1}
)

func number(n int64) told            { return told{n: n} }
func listed(members ...int) told     { return told{list: fmt.Sprint(members)} }
func lowest(n int64, place int) told { return told{n: n, place: place} }
func held(place int) told            { return told{place: place} }

type call = func(g *gate.Gate, s turn.Stepper) told

func join(place int, at int64) call {
	return func(g *gate.Gate, s turn.Stepper) told { return told{err: g.Join(s, place, at)} }
}

func leave(place int) call {
	return func(g *gate.Gate, s turn.Stepper) told { return told{err: g.Leave(s, place)} }
}

func set(place int, at int64) call {
	return func(g *gate.Gate, s turn.Stepper) told { return told{err: g.Set(s, place, at)} }
}

func get(place int) call {
	return func(g *gate.Gate, s turn.Stepper) told {
		n, err := g.Get(s, place)
		return told{n: n, err: err}
	}
}

func list(g *gate.Gate, s turn.Stepper) told { return listed(g.List(s)...) }

func least(none int64) call {
	return func(g *gate.Gate, s turn.Stepper) told {
		n, place := g.Least(s, none)
		return told{n: n, place: place}
	}
}

func may(q int64, size int) call {
	return func(g *gate.Gate, s turn.Stepper) told {
		yes, place := g.May(s, q, size)
		return told{yes: yes, place: place}
	}
}

// of are the calls that are handed a place.
func of(place int) map[string]call {
	return map[string]call{"Join": join(place, 5), "Leave": leave(place), "Set": set(place, 5), "Get": get(place)}
}

// all does one behind the other.
func all(calls ...call) call {
	return func(g *gate.Gate, _ turn.Stepper) told {
		for _, do := range calls {
			do(g, nil)
		}
		return done
	}
}

// half does so many of a call's steps, and is ended there.
func half(do call, steps int) call {
	return func(g *gate.Gate, _ turn.Stepper) told {
		turn.Alone(turn.NewCounter(steps), func(s turn.Stepper) { do(g, s) })
		return done
	}
}

// look is all that there is in a gate: its members, and those numbers that aren't -1, by their places.
func look(g *gate.Gate) string {
	numbers := map[int]int64{}
	for place, n := range g.Numbers() {
		if n != -1 {
			numbers[place] = n
		}
	}
	return state(g.Members(), numbers)
}

func state(members []int, numbers map[int]int64) string { return fmt.Sprint(members, numbers) }

// after is a new gate for which these have been called.
func after(calls ...call) *gate.Gate {
	g := gate.New()
	all(calls...)(g, nil)
	return g
}

// at is a gate of which the places from 0 on are members, with these numbers.
func at(numbers ...int64) *gate.Gate {
	g := gate.New()
	for place, n := range numbers {
		g.Join(nil, place, n)
	}
	return g
}

// full is a gate of which all places are members, from the last one on, each with its own number.
func full() *gate.Gate {
	g := gate.New()
	for place := places - 1; place >= 0; place-- {
		g.Join(nil, place, int64(place))
	}
	return g
}

// check holds a call's answer, its steps, when it is alone, and what it leaves against these.
func check(t *testing.T, g *gate.Gate, name string, do call, want told, steps int, after string) {
	t.Helper()
	before, counter := look(g), turn.NewCounter(api.MostSteps)
	if got := do(g, counter); got != want || counter.Steps() != steps || look(g) != after {
		t.Errorf("%s of %s: %+v in %d steps, leaves %s; want %+v in %d, %s", name, before, got, counter.Steps(), look(g), want, steps, after)
	}
}

// checkStill holds a call that has no step, and leaves all as it was, whether a Stepper is there or not.
func checkStill(t *testing.T, g *gate.Gate, name string, do call, want told) {
	t.Helper()
	before := look(g)
	check(t, g, name, do, want, 0, before)
	if got := do(g, nil); got != want || look(g) != before {
		t.Errorf("%s of %s without a Stepper: %+v, leaves %s", name, before, got, look(g))
	}
	if !turn.Alone(turn.NewCounter(0), func(s turn.Stepper) { do(g, s) }) {
		t.Errorf("%s of %s has done a step, or has panicked", name, before)
	}
}

// watched is a call, what it answers, and what is to be seen ahead of each of its steps, and at the end; ahead of some of them others come between.
type watched struct {
	name   string
	from   func() *gate.Gate
	call   call
	others map[int]call
	want   told
	states []string
}

func (x watched) check(t *testing.T) {
	t.Helper()
	g, between := x.from(), map[int]func(){}
	for step, other := range x.others {
		between[step] = func() { other(g, nil) }
	}
	var got told
	states := plain.Watched(func() string { return look(g) }, between, func(s turn.Stepper) { got = x.call(g, s) })
	if got != x.want || !slices.Equal(states, x.states) {
		t.Errorf("%s: %+v, %q; want %+v, %q", x.name, got, states, x.want, x.states)
	}
}

// checkEnds: without a Stepper the answer is the same; and a thread that is ended at a step has done those ahead of it, and nothing that lies behind.
func (x watched) checkEnds(t *testing.T) {
	t.Helper()
	last := len(x.states) - 1
	g := x.from()
	if got := x.call(g, nil); got != x.want || look(g) != x.states[last] {
		t.Error(x.name, "without a Stepper", got, look(g))
	}
	for most, after := range x.states[:last] {
		g = x.from()
		if turn.Alone(turn.NewCounter(most), func(s turn.Stepper) { x.call(g, s) }) || look(g) != after {
			t.Error(x.name, "ended behind", most, look(g))
		}
	}
}

// still is what is to be seen where so many steps change nothing.
func still(what string, steps int) []string { return slices.Repeat([]string{what}, steps+1) }

// together lets so many goroutines go at one time.
func together(do func(n int)) {
	threads := make([]func(s turn.Stepper), crowd)
	for n := range threads {
		threads[n] = func(turn.Stepper) { do(n) }
	}
	turn.Go(threads)
}
