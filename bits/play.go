package bits

import (
	"carillon/api"
	"carillon/turn"
)

// The kinds of Op.
const (
	kindPut = 1 + iota
	kindDrop
	kindHas
	kindClaim
	kindCount
	kindList
)

// Play is P4.7: the threads over the set that the start gives, by the schedule.
func Play(start []int64, threads [][]api.Op, schedule []int, most int) api.Trace {
	x := newSet(start)
	trace := turn.Ops(threads, x.do, schedule, most)
	trace.State = x.numbers(nil)
	return trace
}

// Free is P4.7: the same, as free goroutines.
func Free(start []int64, threads [][]api.Op) api.Trace {
	x := newSet(start)
	trace := turn.OpsFree(threads, x.do)
	trace.State = x.numbers(nil)
	return trace
}

func newSet(start []int64) *Set {
	if len(start) == 0 {
		return &Set{}
	}
	x, _ := New(max(narrow(start[0]), 0))
	for _, i := range start[1:] {
		x.Put(nil, narrow(i))
	}
	return x
}

// narrow makes an int of n; what is out of every set's range stays so, also where ints are smaller.
func narrow(n int64) int { return int(min(max(n, -1), api.MostSize)) }

func (x *Set) do(s turn.Stepper, _ int, op api.Op) api.Answer {
	switch op.Kind {
	case kindPut:
		return ask(s, x.Put, op.A)
	case kindDrop:
		return ask(s, x.Drop, op.A)
	case kindHas:
		return ask(s, x.Has, op.A)
	case kindClaim:
		i, err := x.Claim(s)
		return api.Answer{OK: err == api.OK, N: int64(i)}
	case kindCount:
		return api.Answer{OK: true, N: int64(x.Count(s))}
	case kindList:
		return api.Answer{OK: true, List: x.numbers(s)}
	}
	return api.Answer{}
}

// ask tells what one of the calls answers that are about a number.
func ask(s turn.Stepper, call func(s turn.Stepper, i int) (bool, api.Errno), i int64) api.Answer {
	yes, err := call(s, narrow(i))
	answer := api.Answer{OK: err == api.OK}
	if yes {
		answer.N = 1
	}
	return answer
}

// numbers is List, as traces tell it.
func (x *Set) numbers(s turn.Stepper) []int64 {
	var all []int64
	for _, i := range x.List(s) {
		all = append(all, int64(i))
	}
	return all
}
