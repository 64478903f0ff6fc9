package slots

import (
	"carillon/api"
	"carillon/turn"
)

// The kinds of Op.
const (
	kindPut = 1 + iota
	kindGet
	kindThere
	kindHighest
	kindGather
)

// Play is P11.7: the threads over the ring that the start gives, by the schedule.
func Play(start []int64, threads [][]api.Op, schedule []int, most int) api.Trace {
	r := newRing(start)
	trace := turn.Ops(threads, r.do, schedule, most)
	trace.State = r.state()
	return trace
}

// Free is P11.7: the same, as free goroutines.
func Free(start []int64, threads [][]api.Op) api.Trace {
	r := newRing(start)
	trace := turn.OpsFree(threads, r.do)
	trace.State = r.state()
	return trace
}

// newRing is nil where the start gives no ring.
func newRing(start []int64) *Ring {
	// Asked ahead of making an int of it, which might be one that can be where ints are smaller.
	if len(start) == 0 || start[0] > api.MostSize {
		return nil
	}
	r, err := New(int(max(start[0], 0)))
	if err != api.OK {
		return nil
	}
	for q, v := range start[1:] {
		r.Put(nil, int64(q), v)
	}
	return r
}

func (r *Ring) do(s turn.Stepper, _ int, op api.Op) api.Answer {
	// Asked here, as a nil ring's calls tell why they are refused.
	if r == nil {
		return api.Answer{}
	}
	switch op.Kind {
	case kindPut:
		return answer(0, r.Put(s, op.A, op.B))
	case kindGet:
		return answer(r.Get(s, op.A))
	case kindThere:
		return api.Answer{OK: r.There(s, op.A)}
	case kindHighest:
		return api.Answer{OK: true, N: r.Highest(s, op.A, op.B)}
	case kindGather:
		list, err := r.Gather(s, op.A, int(op.B))
		return api.Answer{OK: err == api.OK, N: int64(err), List: list}
	}
	return api.Answer{}
}

// answer tells n, or the error where there is one.
func answer(n int64, err api.Errno) api.Answer {
	if err != api.OK {
		n = int64(err)
	}
	return api.Answer{OK: err == api.OK, N: n}
}

func (r *Ring) state() []int64 { return append(r.Stamps(), r.Values()...) }
