package solo_test

import (
	"math"
	"slices"

	"carillon/api"
	"carillon/plain"
)

// shared is what all threads share, by a plain reading of the chapter's words, with what each has in its own memory; how many steps they have done; and what its state was ahead of each of them.
type shared struct {
	size, readers int64

	stamps, values  []int64
	cursor          int64
	numbers, places []int64

	next, published, cached int64

	steps int
	log   [][]int64
}

// newShared has the size 0 where the ring can't be.
func newShared(size, readers int) *shared {
	r := &shared{cursor: -1, published: -1, cached: -1}
	if size < 1 || size > api.MostSize || api.MostSize%size != 0 || readers < 0 || readers > api.MostReaders {
		return r
	}
	r.size, r.readers = int64(size), int64(readers)
	r.stamps, r.values = slices.Repeat([]int64{-2}, size), make([]int64, size)
	r.numbers, r.places = slices.Repeat([]int64{-1}, readers), slices.Repeat([]int64{-1}, readers)
	return r
}

func (r *shared) state() []int64 {
	if r.size == 0 {
		return nil
	}
	return slices.Concat([]int64{r.next, r.cursor}, r.numbers, r.stamps, r.values)
}

// walker is a thread of that reading. On is the step at which it stands: it ends the operation, or says which step is the next one.
type walker struct {
	plain.Walk
	ring   *shared
	thread int
	on     func()
}

func (w *walker) Step() {
	w.Count()
	w.ring.log = append(w.ring.log, w.ring.state())
	w.on()
}

// begin goes up to an operation's first step, or answers.
func (w *walker) begin(o api.Op) (api.Answer, bool) {
	k := w.thread - 1
	switch {
	case w.ring.size == 0 || int64(k) >= w.ring.readers:
		return nothing, true
	case k < 0:
		return w.beginWriter(o)
	case o.Kind == opRead:
		w.on = func() { w.enter(k, 1, func(all []int64) api.Answer { return yes(all[0]) }) }
		return nothing, false
	case o.Kind == opBatch:
		w.on = func() { w.enter(k, max(o.A, 1), func(all []int64) api.Answer { return listed(all...) }) }
		return nothing, false
	}
	return nothing, true
}

func (w *walker) beginWriter(o api.Op) (api.Answer, bool) {
	r := w.ring
	switch o.Kind {
	case opClaim:
		return w.claim(o.A, func(first int64) (api.Answer, bool) { return yes(first), true })
	case opPut, opPublish:
		if o.A <= r.published || o.A >= r.next {
			return refused(api.ErrRange), true
		}
		if o.Kind == opPublish {
			w.on = func() { w.publish(o.A, yes(0)) }
			return nothing, false
		}
		w.put(o.A, o.B, func() { w.End(yes(0)) })
		return nothing, false
	case opWrite:
		return w.claim(o.B, func(first int64) (api.Answer, bool) {
			w.write(first, first, first+o.B, o.A)
			return nothing, false
		})
	}
	return nothing, true
}

// claim goes on with then, once the sequences are claimed: at once, or behind the step that looked at the last reader.
func (w *walker) claim(n int64, then func(first int64) (api.Answer, bool)) (api.Answer, bool) {
	r := w.ring
	if n < 1 || n > r.size {
		return refused(api.ErrRange), true
	}
	need := r.next + n - 1 - r.size
	granted := func() (api.Answer, bool) {
		if r.cached < need {
			return refused(api.ErrFull), true
		}
		r.next += n
		return then(r.next - n)
	}
	if r.cached >= need {
		return granted()
	}
	if r.readers == 0 {
		r.cached = end
		return granted()
	}
	k, least := 0, int64(math.MaxInt64)
	w.on = func() {
		least = min(least, r.numbers[k])
		k++
		if int64(k) < r.readers {
			return
		}
		r.cached = least
		if a, ended := granted(); ended {
			w.End(a)
		}
	}
	return nothing, false
}

// put does its three steps, and then goes on with then, at once.
func (w *walker) put(q, v int64, then func()) {
	r := w.ring
	slot, lap := q%r.size, q/r.size
	w.on = func() {
		r.stamps[slot] = 2*lap - 1
		w.on = func() {
			r.values[slot] = v
			w.on = func() {
				r.stamps[slot] = 2 * lap
				then()
			}
		}
	}
}

// write puts the values from q on, and publishes the last one.
func (w *walker) write(first, q, behind, v int64) {
	w.put(q, v, func() {
		if q+1 < behind {
			w.write(first, q+1, behind, v+1)
			return
		}
		w.on = func() { w.publish(q, yes(first)) }
	})
}

func (w *walker) publish(q int64, a api.Answer) {
	w.ring.cursor, w.ring.published = q, q
	w.End(a)
}

// enter is a reader's first step.
func (w *walker) enter(k int, most int64, answer func(all []int64) api.Answer) {
	r := w.ring
	last := r.cursor
	if last <= r.places[k] {
		w.End(refused(api.ErrEmpty))
		return
	}
	w.gather(k, r.places[k]+1, min(last-r.places[k], most), nil, answer)
}

// gather gets so many more, from q on.
func (w *walker) gather(k int, q, more int64, had []int64, answer func(all []int64) api.Answer) {
	finish := func(all []int64) {
		w.on = func() {
			w.ring.places[k] += int64(len(all))
			w.ring.numbers[k] = w.ring.places[k]
			w.End(answer(all))
		}
	}
	w.get(q, func(v int64, err api.Errno) {
		switch {
		case err != api.OK && len(had) == 0:
			w.End(refused(err))
		case err != api.OK:
			finish(had)
		case more == 1:
			finish(append(had, v))
		default:
			w.gather(k, q+1, more-1, append(had, v), answer)
		}
	})
}

// get does layer 11's steps, and then goes on with then, at once.
func (w *walker) get(q int64, then func(v int64, err api.Errno)) {
	r := w.ring
	slot, lies := q%r.size, 2*(q/r.size)
	w.on = func() {
		if x := r.stamps[slot]; x < lies {
			then(0, api.ErrNone)
			return
		} else if x > lies {
			then(0, api.ErrLost)
			return
		}
		w.on = func() {
			v := r.values[slot]
			w.on = func() {
				if r.stamps[slot] != lies {
					then(0, api.ErrLost)
					return
				}
				then(v, api.OK)
			}
		}
	}
}

func newWalkers(size, readers int, threads [][]api.Op) []*walker {
	r := newShared(size, readers)
	var walkers []*walker
	for n, ops := range threads {
		w := &walker{ring: r, thread: n}
		w.Walk = plain.NewWalk(ops, &r.steps, w.begin)
		walkers = append(walkers, w)
	}
	return walkers
}

func modelPlay(size, readers int, threads [][]api.Op, schedule []int, most int) (api.Trace, []*walker) {
	walkers := newWalkers(size, readers, threads)
	return plain.Follow(walkers, schedule, most, walkers[0].ring.state), walkers
}

func traceOf(walkers []*walker) api.Trace { return plain.TraceOf(walkers, walkers[0].ring.state()) }
