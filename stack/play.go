package stack

import (
	"carillon/api"
	"carillon/turn"
)

// The kinds of Op.
const (
	kindPush = 1 + iota
	kindPop
	kindPeek
	kindEmpty
)

// Play is P6.6: the threads over a stack that is empty at first, by the schedule.
func Play(size int, tagged bool, threads [][]api.Op, schedule []int, most int) api.Trace {
	k := New(size, tagged)
	trace := turn.Ops(threads, k.do, schedule, most)
	trace.State = k.state()
	return trace
}

// Free is P6.6: the same over a stack with tags, as free goroutines.
func Free(size int, threads [][]api.Op) api.Trace {
	k := New(size, true)
	trace := turn.OpsFree(threads, k.do)
	trace.State = k.state()
	return trace
}

func (k *Stack) do(s turn.Stepper, _ int, op api.Op) api.Answer {
	switch op.Kind {
	case kindPush:
		return api.Answer{OK: k.Push(s, op.A)}
	case kindPop:
		v, ok := k.Pop(s)
		return api.Answer{OK: ok, N: v}
	case kindPeek:
		v, ok := k.Peek(s)
		return api.Answer{OK: ok, N: v}
	case kindEmpty:
		return api.Answer{OK: k.Empty(s)}
	}
	return api.Answer{}
}

func (k *Stack) state() []int64 {
	head, tag, free, freeTag := k.Heads()
	return append([]int64{head, tag, free, freeTag}, k.Values()...)
}
