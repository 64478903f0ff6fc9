package multi

import (
	"carillon/api"
	"carillon/cell"
	"carillon/turn"
)

// The kinds of Op.
const (
	kindClaim = 1 + iota
	kindWrite
	kindOffer
	kindCursor
	kindPublished
	kindGet
	kindFinish
)

// world is what a run goes over: the ring, how far the readers have come, and what each thread has last claimed, which is that thread's own memory.
type world struct {
	ring    *Multi
	readers readers
	claims  [api.MostThreads]claimed
}

// claimed is so many sequences from first on; at first none.
type claimed struct{ first, count int64 }

// readers is the Holder of a run: up to where each reader has finished.
type readers []cell.Word

// Least loads all readers' words.
func (all readers) Least(s turn.Stepper, none int64) (int64, int) {
	least, place := none, -1
	for i := range all {
		if n := all[i].Load(s); place < 0 || n < least {
			least, place = n, i
		}
	}
	return least, place
}

// Play is P13.6: the threads over the ring and the readers that the start gives, by the schedule.
func Play(start []int64, threads [][]api.Op, schedule []int, most int) api.Trace {
	w := newWorld(start)
	trace := turn.Ops(threads, w.do, schedule, most)
	trace.State = w.state()
	return trace
}

// Free is P13.6: the same, as free goroutines.
func Free(start []int64, threads [][]api.Op) api.Trace {
	w := newWorld(start)
	trace := turn.OpsFree(threads, w.do)
	trace.State = w.state()
	return trace
}

// newWorld is nil where the start gives no ring.
func newWorld(start []int64) *world {
	size, first := int64(1), int64(0)
	if len(start) > 0 {
		size = start[0]
	}
	if len(start) > 1 {
		first = start[1]
	}
	// Held to what is refused as well, as a greater one might not be where ints are smaller.
	ring, err := New(int(min(max(size, 0), api.MostSize+1)), first)
	if err != api.OK {
		return nil
	}
	start = start[min(len(start), 2):]
	w := &world{ring: ring, readers: make(readers, min(len(start), api.MostReaders))}
	for i := range w.readers {
		w.readers[i].Store(nil, start[i])
	}
	return w
}

func (w *world) do(s turn.Stepper, thread int, op api.Op) api.Answer {
	// Asked here, as a nil ring's calls tell why they are refused.
	if w == nil {
		return api.Answer{}
	}
	switch op.Kind {
	case kindClaim:
		return w.claim(s, &w.claims[thread], op.A)
	case kindWrite:
		return w.write(s, w.claims[thread], op.A, op.C)
	case kindOffer:
		return answer(w.ring.Offer(s, w.readers, w.values(op.A, op.B)...))
	case kindCursor:
		return api.Answer{OK: true, N: w.ring.Cursor(s)}
	case kindPublished:
		return api.Answer{OK: true, N: w.ring.Published(s, op.A)}
	case kindGet:
		return answer(w.ring.Ring().Get(s, op.A))
	case kindFinish:
		return w.finish(s, op.A, op.B)
	}
	return api.Answer{}
}

func (w *world) claim(s turn.Stepper, own *claimed, n int64) api.Answer {
	last, err := w.ring.Claim(s, w.readers, n)
	if err == api.OK {
		*own = claimed{first: last - n + 1, count: n}
	}
	return answer(last, err)
}

func (w *world) write(s turn.Stepper, own claimed, i, v int64) api.Answer {
	if i < 0 || i >= own.count {
		return api.Answer{}
	}
	return api.Answer{OK: w.ring.Write(s, own.first+i, v) == api.OK}
}

// finish holds the number as an int64: as an int it may name another reader where ints are smaller.
func (w *world) finish(s turn.Stepper, reader, q int64) api.Answer {
	if reader < 0 || reader >= int64(len(w.readers)) {
		return api.Answer{}
	}
	w.readers[reader].Store(s, q)
	return api.Answer{OK: true}
}

// values are n of them, from first on; one more than an Offer takes stands for all that are too many.
func (w *world) values(first, n int64) []int64 {
	all := make([]int64, min(max(n, 0), int64(w.ring.Size())+1))
	for i := range all {
		all[i] = first + int64(i)
	}
	return all
}

// answer tells n, or the error where there is one.
func answer(n int64, err api.Errno) api.Answer {
	if err != api.OK {
		n = int64(err)
	}
	return api.Answer{OK: err == api.OK, N: n}
}

// state is empty where there is no ring.
func (w *world) state() []int64 {
	if w == nil {
		return nil
	}
	all := []int64{w.ring.cursor.Value(), w.ring.seen.Value()}
	for i := range w.readers {
		all = append(all, w.readers[i].Value())
	}
	return append(append(all, w.ring.ring.Stamps()...), w.ring.ring.Values()...)
}
