package solo

import (
	"math"

	"carillon/api"
	"carillon/turn"
)

// The kinds of Op: the first four are the writer's, the others a reader's.
const (
	Claim = 1 + iota
	Put
	Publish
	Write
	Read
	Batch
)

// Play is P12.8: the threads, of which the first is the writer and the others are the readers, over one ring, by the schedule.
func Play(size, readers int, threads [][]api.Op, schedule []int, most int) api.Trace {
	r := newRing(size, readers)
	trace := turn.Ops(threads, r.do, schedule, most)
	trace.State = r.state()
	return trace
}

// Free is P12.8: the same, as free goroutines.
func Free(size, readers int, threads [][]api.Op) api.Trace {
	r := newRing(size, readers)
	trace := turn.OpsFree(threads, r.do)
	trace.State = r.state()
	return trace
}

// newRing is nil where the ring can't be.
func newRing(size, readers int) *Solo {
	r, _ := New(size, readers)
	return r
}

func (r *Solo) do(s turn.Stepper, thread int, op api.Op) api.Answer {
	switch {
	// Asked here, as a nil ring's calls tell why they are refused.
	case r == nil:
		return api.Answer{}
	case thread == 0:
		return r.doWriter(s, op)
	case thread <= r.Readers():
		return r.doReader(s, thread-1, op)
	}
	return api.Answer{}
}

func (r *Solo) doWriter(s turn.Stepper, op api.Op) api.Answer {
	switch op.Kind {
	case Claim:
		return answer(r.Claim(s, held(op.A)))
	case Put:
		return answer(0, r.Put(s, op.A, op.B))
	case Publish:
		return answer(0, r.Publish(s, op.A))
	case Write:
		return answer(r.Write(s, r.values(op.A, op.B)...))
	}
	return api.Answer{}
}

func (r *Solo) doReader(s turn.Stepper, k int, op api.Op) api.Answer {
	switch op.Kind {
	case Read:
		return answer(r.Read(s, k))
	case Batch:
		list, err := r.Batch(s, k, held(op.A))
		return api.Answer{OK: err == api.OK, N: int64(err), List: list}
	}
	return api.Answer{}
}

// held makes an int of n that is one where ints are smaller too.
func held(n int64) int { return int(min(max(n, -1), math.MaxInt32)) }

// values are n of them, from first on; one more than a Write takes stands for all that are too many.
func (r *Solo) values(first, n int64) []int64 {
	all := make([]int64, min(max(n, 0), int64(r.Size())+1))
	for i := range all {
		all[i] = first + int64(i)
	}
	return all
}

// answer tells n, or the error where there is one.
func answer(n int64, err api.Errno) api.Answer {
	if err != api.OK {
		n = int64(err)
	}
	return api.Answer{OK: err == api.OK, N: n}
}

// state is empty where the ring can't be.
func (r *Solo) state() []int64 {
	if r == nil {
		return nil
	}
	next, cursor, numbers := r.State()
	all := append([]int64{next, cursor}, numbers...)
	return append(append(all, r.ring.Stamps()...), r.ring.Values()...)
}
