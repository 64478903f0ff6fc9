package cell

import (
	"carillon/api"
	"carillon/turn"
)

// The kinds of Op.
const (
	wordLoad = 1 + iota
	wordStore
	wordAdd
	wordSwap
	wordCas
	wordGreatest
	wordLeast
	wordBump
	flagLoad
	flagSet
	flagClear
	boxLoad
	boxStore
	boxSwap
	boxAdd
)

// trio is what there is for each number of the start.
type trio struct {
	word Word
	flag Flag
	box  Box[int64]
}

type trios []trio

// Play is P2.6: the threads over what the start gives, by the schedule.
func Play(start []int64, threads [][]api.Op, schedule []int, most int) api.Trace {
	all := newTrios(start)
	trace := turn.Ops(threads, all.do, schedule, most)
	trace.State = all.state()
	return trace
}

// Free is P2.6: the same, as free goroutines.
func Free(start []int64, threads [][]api.Op) api.Trace {
	all := newTrios(start)
	trace := turn.OpsFree(threads, all.do)
	trace.State = all.state()
	return trace
}

func newTrios(start []int64) trios {
	all := make(trios, min(len(start), api.MostSize))
	for i := range all {
		all[i].word.Store(nil, start[i])
		all[i].box.Store(nil, start[i])
	}
	return all
}

func (all trios) state() []int64 {
	state := make([]int64, 0, 3*len(all))
	for i := range all {
		flag := int64(0)
		if all[i].flag.Value() {
			flag = 1
		}
		state = append(state, all[i].word.Value(), flag, all[i].box.Value())
	}
	return state
}

// do holds A as an int64: as an int it may name another one where ints are smaller.
func (all trios) do(s turn.Stepper, _ int, op api.Op) api.Answer {
	if op.A < 0 || op.A >= int64(len(all)) {
		return api.Answer{}
	}
	one := &all[op.A]
	switch {
	case op.Kind < flagLoad:
		return doWord(s, &one.word, op)
	case op.Kind < boxLoad:
		return doFlag(s, &one.flag, op)
	default:
		return doBox(s, &one.box, op)
	}
}

func doWord(s turn.Stepper, w *Word, op api.Op) api.Answer {
	switch op.Kind {
	case wordLoad:
		return number(w.Load(s), true)
	case wordStore:
		w.Store(s, op.B)
		return whether(true)
	case wordAdd:
		return number(w.Add(s, op.B), true)
	case wordSwap:
		return number(w.Swap(s, op.B), true)
	case wordCas:
		return whether(w.Cas(s, op.B, op.C))
	case wordGreatest:
		return number(w.Greatest(s, op.B))
	case wordLeast:
		return number(w.Least(s, op.B))
	case wordBump:
		return number(w.Bump(s, op.B, op.C))
	}
	return api.Answer{}
}

func doFlag(s turn.Stepper, f *Flag, op api.Op) api.Answer {
	switch op.Kind {
	case flagLoad:
		return whether(f.Load(s))
	case flagSet:
		return whether(f.Set(s))
	case flagClear:
		return whether(f.Clear(s))
	}
	return api.Answer{}
}

func doBox(s turn.Stepper, b *Box[int64], op api.Op) api.Answer {
	switch op.Kind {
	case boxLoad:
		return number(b.Load(s).Value(), true)
	case boxStore:
		b.Store(s, op.B)
		return whether(true)
	case boxSwap:
		return number(b.Swap(s, op.B), true)
	case boxAdd:
		return addOnce(s, b, op.B)
	}
	return api.Answer{}
}

// addOnce doesn't try again: that another one has come between is what it is to show.
func addOnce(s turn.Stepper, b *Box[int64], v int64) api.Answer {
	h := b.Load(s)
	sum := h.Value() + v
	if !b.Cas(s, h, sum) {
		return api.Answer{}
	}
	return number(sum, true)
}

func number(n int64, ok bool) api.Answer { return api.Answer{OK: ok, N: n} }

func whether(ok bool) api.Answer { return api.Answer{OK: ok} }
