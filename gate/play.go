package gate

import (
	"carillon/api"
	"carillon/turn"
)

// The kinds of Op.
const (
	kindJoin = 1 + iota
	kindLeave
	kindSet
	kindGet
	kindList
	kindLeast
	kindMay
)

// Play is P14.8: the threads over a gate that those of the start have joined, by the schedule.
func Play(start []int64, threads [][]api.Op, schedule []int, most int) api.Trace {
	g := newGate(start)
	trace := turn.Ops(threads, g.do, schedule, most)
	trace.State = g.state()
	return trace
}

// Free is P14.8: the same, as free goroutines.
func Free(start []int64, threads [][]api.Op) api.Trace {
	g := newGate(start)
	trace := turn.OpsFree(threads, g.do)
	trace.State = g.state()
	return trace
}

func newGate(start []int64) *Gate {
	g := New()
	for place, at := range start[:min(len(start), api.MostReaders)] {
		g.Join(nil, place, at)
	}
	return g
}

func (g *Gate) do(s turn.Stepper, _ int, op api.Op) api.Answer {
	switch op.Kind {
	case kindJoin:
		return answer(0, g.Join(s, int(op.A), op.B))
	case kindLeave:
		return answer(0, g.Leave(s, int(op.A)))
	case kindSet:
		return answer(0, g.Set(s, int(op.A), op.B))
	case kindGet:
		return answer(g.Get(s, int(op.A)))
	case kindList:
		return api.Answer{OK: true, List: wide(g.List(s))}
	case kindLeast:
		least, place := g.Least(s, op.A)
		return api.Answer{OK: true, N: least, List: []int64{int64(place)}}
	case kindMay:
		ok, place := g.May(s, op.A, int(op.B))
		return api.Answer{OK: ok, N: int64(place)}
	}
	return api.Answer{}
}

// answer tells n, or the error where there is one.
func answer(n int64, err api.Errno) api.Answer {
	if err != api.OK {
		n = int64(err)
	}
	return api.Answer{OK: err == api.OK, N: n}
}

func (g *Gate) state() []int64 {
	members := wide(g.Members())
	return append(append([]int64{int64(len(members))}, members...), g.Numbers()...)
}

// wide is the places as numbers of a trace.
func wide(places []int) []int64 {
	all := make([]int64, len(places))
	for i, place := range places {
		all[i] = int64(place)
	}
	return all
}
