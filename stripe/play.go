package stripe

import (
	"carillon/api"
	"carillon/turn"
)

// The kinds of Op.
const (
	kindAdd = 1 + iota
	kindSum
	kindTake
	kindMove
	kindEven
)

// Play is P5.7: the threads over the counter that the start gives, by the schedule.
func Play(start []int64, threads [][]api.Op, schedule []int, most int) api.Trace {
	c := newCounter(start)
	trace := turn.Ops(threads, c.do, schedule, most)
	trace.State = c.All()
	return trace
}

// Free is P5.7: the same, as free goroutines.
func Free(start []int64, threads [][]api.Op) api.Trace {
	c := newCounter(start)
	trace := turn.OpsFree(threads, c.do)
	trace.State = c.All()
	return trace
}

func newCounter(start []int64) *Counter {
	c := New(len(start))
	for i, v := range start[:min(len(start), api.MostThreads)] {
		c.Add(nil, i, v)
	}
	return c
}

func (c *Counter) do(s turn.Stepper, _ int, op api.Op) api.Answer {
	switch op.Kind {
	case kindAdd:
		return api.Answer{OK: true, N: c.Add(s, int(op.A), op.B)}
	case kindSum:
		return api.Answer{OK: true, N: c.Sum(s)}
	case kindTake:
		return api.Answer{OK: true, N: c.Take(s)}
	case kindMove:
		c.Move(s, int(op.A), int(op.B), op.C)
		return api.Answer{OK: true}
	case kindEven:
		n, ok := c.Even(s)
		return api.Answer{OK: ok, N: n}
	}
	return api.Answer{}
}
