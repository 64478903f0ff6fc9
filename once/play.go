package once

import (
	"carillon/api"
	"carillon/turn"
)

// The kinds of Op.
const (
	kindGet = 1 + iota
	kindSet
	kindMake
	kindQuit
)

const mostOnces = 64

type onces []Once

// Play is P3.8: the threads over so many Onces, by the schedule.
func Play(cells int, threads [][]api.Op, schedule []int, most int) api.Trace {
	all := newOnces(cells)
	trace := turn.Ops(threads, all.do, schedule, most)
	trace.State = all.state()
	return trace
}

// Free is P3.8: the same, as free goroutines.
func Free(cells int, threads [][]api.Op) api.Trace {
	all := newOnces(cells)
	trace := turn.OpsFree(threads, all.do)
	trace.State = all.state()
	return trace
}

func newOnces(n int) onces { return make(onces, min(max(n, 1), mostOnces)) }

func (all onces) state() []int64 {
	places := make([]int64, 0, 3*len(all))
	for i := range all {
		state, value, count := all[i].State()
		places = append(places, state, value, count)
	}
	return places
}

// do holds A as an int64: as an int it may name another one where ints are smaller.
func (all onces) do(s turn.Stepper, _ int, op api.Op) api.Answer {
	if op.A < 0 || op.A >= int64(len(all)) {
		return api.Answer{}
	}
	o := &all[op.A]
	switch op.Kind {
	case kindGet:
		n, ok := o.Get(s)
		return api.Answer{OK: ok, N: n}
	case kindSet:
		n, ok := o.Set(s, op.B)
		return api.Answer{OK: ok, N: n}
	case kindMake:
		return o.answer(s, op.C, o.counting(op.B))
	case kindQuit:
		return o.answer(s, op.C, givesUp)
	}
	return api.Answer{}
}

// answer tells a Make: an error's number stands below 0.
func (o *Once) answer(s turn.Stepper, tries int64, maker func(s turn.Stepper) (int64, bool)) api.Answer {
	n, err := o.Make(s, clampTries(tries), maker)
	if err != api.OK {
		return api.Answer{N: -int64(err)}
	}
	return api.Answer{OK: true, N: n}
}

// counting makes the maker of kindMake.
func (o *Once) counting(v int64) func(s turn.Stepper) (int64, bool) {
	return func(s turn.Stepper) (int64, bool) { return v + o.count.Load(s), true }
}

// givesUp is the maker of kindQuit.
func givesUp(turn.Stepper) (int64, bool) { return 0, false }
