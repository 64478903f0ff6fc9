package barrier

import (
	"carillon/api"
	"carillon/cell"
	"carillon/turn"
)

// The kinds of Op.
const (
	Wait = 1 + iota
	Limit
	Alert
	Clear
	Alerted
	Store
	Add
)

// world is what a run goes over: the words, and the barrier whose sources they are.
type world struct {
	words   []cell.Word
	barrier *Barrier
}

// Play is P15.6: the threads over the words and their barrier, by the schedule.
func Play(words []int64, threads [][]api.Op, schedule []int, most int) api.Trace {
	w := newWorld(words)
	trace := turn.Ops(threads, w.do, schedule, most)
	trace.State = w.state()
	return trace
}

// Free is P15.6: the same, as free goroutines.
func Free(words []int64, threads [][]api.Op) api.Trace {
	w := newWorld(words)
	trace := turn.OpsFree(threads, w.do)
	trace.State = w.state()
	return trace
}

func newWorld(numbers []int64) *world {
	w := &world{words: make([]cell.Word, min(len(numbers), api.MostReaders+1))}
	sources := make([]Source, len(w.words))
	for i := range w.words {
		w.words[i].Store(nil, numbers[i])
		sources[i] = &w.words[i]
	}
	if len(sources) == 0 {
		w.barrier = New(nil)
	} else {
		w.barrier = New(sources[0], sources[1:]...)
	}
	return w
}

func (w *world) do(s turn.Stepper, _ int, op api.Op) api.Answer {
	switch op.Kind {
	case Wait:
		return answer(w.barrier.Wait(s, op.A, triesOf(op.B), wayOf(op.C)))
	case Limit:
		return api.Answer{OK: true, N: w.barrier.Limit(s)}
	case Alert:
		return api.Answer{OK: w.barrier.Alert(s)}
	case Clear:
		return api.Answer{OK: w.barrier.Clear(s)}
	case Alerted:
		return api.Answer{OK: w.barrier.Alerted(s)}
	case Store, Add:
		return w.change(s, op)
	}
	return api.Answer{}
}

// change holds A as an int64: as an int it may name another word where ints are smaller.
func (w *world) change(s turn.Stepper, op api.Op) api.Answer {
	if op.A < 0 || op.A >= int64(len(w.words)) {
		return api.Answer{}
	}
	word := &w.words[op.A]
	if op.Kind == Add {
		return api.Answer{OK: true, N: word.Add(s, op.B)}
	}
	word.Store(s, op.B)
	return api.Answer{OK: true}
}

// triesOf holds the tries to their bounds first, as a greater number may be another one where ints are smaller; so does wayOf with none of the ways.
func triesOf(b int64) int { return int(min(max(b, 0), api.MostTries)) }

func wayOf(c int64) Way { return Way(min(max(c, 0), int64(Rare)+1)) }

// answer tells n, or the error where there is one.
func answer(n int64, err api.Errno) api.Answer {
	if err != api.OK {
		n = int64(err)
	}
	return api.Answer{OK: err == api.OK, N: n}
}

func (w *world) state() []int64 {
	all := make([]int64, 0, len(w.words)+1)
	for i := range w.words {
		all = append(all, w.words[i].Value())
	}
	alert := int64(0)
	if w.barrier.Alerted(nil) {
		alert = 1
	}
	return append(all, alert)
}
