package queue

import (
	"carillon/api"
	"carillon/turn"
)

// The kinds of Op.
const (
	kindPut = 1 + iota
	kindTake
	kindEmpty
)

// Play is P7.6: the threads over a queue with the values of start, by the schedule.
func Play(start []int64, threads [][]api.Op, schedule []int, most int) api.Trace {
	q := New(start...)
	trace := turn.Ops(threads, q.do, schedule, most)
	trace.State = q.state()
	return trace
}

// Free is P7.6: the same, as free goroutines.
func Free(start []int64, threads [][]api.Op) api.Trace {
	q := New(start...)
	trace := turn.OpsFree(threads, q.do)
	trace.State = q.state()
	return trace
}

func (q *Queue) do(s turn.Stepper, _ int, op api.Op) api.Answer {
	switch op.Kind {
	case kindPut:
		q.Put(s, op.A)
		return api.Answer{OK: true}
	case kindTake:
		v, err := q.Take(s)
		return api.Answer{OK: err == api.OK, N: v}
	case kindEmpty:
		answer := api.Answer{OK: true}
		if q.Empty(s) {
			answer.N = 1
		}
		return answer
	}
	return api.Answer{}
}

func (q *Queue) state() []int64 { return append([]int64{int64(q.Behind())}, q.Values()...) }
