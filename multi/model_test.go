package multi_test

import (
	"math"
	"slices"

	"carillon/api"
	"carillon/plain"
)

// shared is what all threads share, by a plain reading of the chapter's words; how many steps they have done; and what its state was ahead of each of them.
type shared struct {
	size, first    int64
	cursor, seen   int64
	words          []int64
	stamps, values []int64

	steps int
	log   [][]int64
}

// newShared has the size 0 where the start gives no ring.
func newShared(start []int64) *shared {
	given := slices.Concat(start, []int64{1, 0}[min(len(start), 2):])
	size, first := given[0], given[1]
	if size < 1 || size > api.MostSize || api.MostSize%size != 0 || first < 0 || first >= end {
		return &shared{}
	}
	words := given[2:]
	return &shared{
		size: size, first: first, cursor: first - 1, seen: first - 1, words: slices.Clone(words[:min(len(words), api.MostReaders)]),
		stamps: slices.Repeat([]int64{-2}, int(size)), values: make([]int64, size),
	}
}

func (r *shared) state() []int64 {
	if r.size == 0 {
		return nil
	}
	return slices.Concat([]int64{r.cursor, r.seen}, r.words, r.stamps, r.values)
}

// walker is a thread of that reading. On is the step at which it stands: it ends the operation, or says which step is the next one.
type walker struct {
	plain.Walk
	ring *shared
	had  []int64 // The sequences of its last claim.
	on   func()
}

func (w *walker) Step() {
	w.Count()
	w.ring.log = append(w.ring.log, w.ring.state())
	w.on()
}

// begin goes up to an operation's first step, or answers.
func (w *walker) begin(o api.Op) (api.Answer, bool) {
	r := w.ring
	if r.size == 0 {
		return nothing, true
	}
	switch o.Kind {
	case opClaim:
		return w.claim(o.A, func(all []int64) { w.had = all; w.End(yes(all[len(all)-1])) })
	case opWrite:
		if o.A < 0 || o.A >= int64(len(w.had)) {
			return nothing, true
		}
		w.put(w.had[o.A], o.C, func() { w.End(yes(0)) })
	case opOffer:
		return w.claim(o.B, func(all []int64) { w.lay(all, o.A, yes(all[len(all)-1])) })
	case opCursor:
		w.on = func() { w.End(yes(r.cursor)) }
	case opPublished:
		return w.published(o.A)
	case opGet:
		return w.get(o.A)
	case opFinish:
		if o.A < 0 || o.A >= int64(len(r.words)) {
			return nothing, true
		}
		w.on = func() { r.words[o.A] = o.B; w.End(yes(0)) }
	default:
		return nothing, true
	}
	return nothing, false
}

// claim goes on with then, in its last step, where the sequences are the thread's.
func (w *walker) claim(n int64, then func(all []int64)) (api.Answer, bool) {
	if n < 1 || n > w.ring.size {
		return refused(api.ErrRange), true
	}
	w.enter(n, then)
	return nothing, false
}

// enter is S1, and S2 behind it.
func (w *walker) enter(n int64, then func(all []int64)) {
	r := w.ring
	w.on = func() {
		var all []int64
		c := r.cursor
		for q := c + 1; q <= c+n; q++ {
			all = append(all, q)
		}
		if all[n-1] >= end {
			w.End(refused(api.ErrEnd))
			return
		}
		again := func() { w.enter(n, then) }
		look := func() { w.look(c, all, again, func() { then(all) }) }
		w.on = func() {
			if c+n-r.size > r.seen {
				w.ask(0, c, math.MaxInt64, c+n-r.size, look)
				return
			}
			look()
		}
	}
}

// ask loads the words from one on, and lays what was found.
func (w *walker) ask(i int, c, least, need int64, then func()) {
	r := w.ring
	if i < len(r.words) {
		w.on = func() { w.ask(i+1, c, min(least, r.words[i]), need, then) }
		return
	}
	found := min(least, c)
	w.on = func() {
		r.seen = found
		if need > found {
			w.End(refused(api.ErrFull))
			return
		}
		then()
	}
}

// look is S4 to S6: of the sequences that others had a lap ahead of these.
func (w *walker) look(c int64, all []int64, again, then func()) {
	r := w.ring
	var before []int64
	for _, q := range all {
		if q-r.size >= r.first {
			before = append(before, q-r.size)
		}
	}
	swap := func() {
		if r.cursor != c {
			again()
			return
		}
		r.cursor = all[len(all)-1]
		then()
	}
	asks := func() {
		if r.cursor != c {
			again()
			return
		}
		w.End(refused(api.ErrFull))
	}
	var next func()
	next = func() {
		if len(before) == 0 {
			w.on = swap
			return
		}
		q := before[0]
		before = before[1:]
		w.on = func() {
			if !r.lies(q) {
				w.on = asks
				return
			}
			next()
		}
	}
	next()
}

// lies tells whether q's slot has the stamp that says so.
func (r *shared) lies(q int64) bool { return r.stamps[q%r.size] == q/r.size*2 }

// put does its three steps, and then goes on with then, at once.
func (w *walker) put(q, v int64, then func()) {
	r := w.ring
	slot, stamp := q%r.size, q/r.size*2
	w.on = func() {
		r.stamps[slot] = stamp - 1
		w.on = func() {
			r.values[slot] = v
			w.on = func() {
				r.stamps[slot] = stamp
				then()
			}
		}
	}
}

// lay puts the values from v on.
func (w *walker) lay(all []int64, v int64, a api.Answer) {
	w.put(all[0], v, func() {
		if len(all) == 1 {
			w.End(a)
			return
		}
		w.lay(all[1:], v+1, a)
	})
}

func (w *walker) published(from int64) (api.Answer, bool) {
	r := w.ring
	switch {
	case from == math.MinInt64:
		return yes(from), true
	case from < 0 || from >= end:
		return yes(from - 1), true
	}
	w.on = func() {
		c := r.cursor
		w.high(from, from, c)
	}
	return nothing, false
}

// high looks at q next, if that is to be looked at.
func (w *walker) high(from, q, c int64) {
	r := w.ring
	if q > c || q >= from+r.size {
		w.End(yes(q - 1))
		return
	}
	w.on = func() {
		if !r.lies(q) {
			w.End(yes(q - 1))
			return
		}
		w.high(from, q+1, c)
	}
}

func (w *walker) get(q int64) (api.Answer, bool) {
	r := w.ring
	if q < 0 || q >= end {
		return refused(api.ErrRange), true
	}
	slot, stamp := q%r.size, q/r.size*2
	w.on = func() {
		if x := r.stamps[slot]; x < stamp {
			w.End(refused(api.ErrNone))
			return
		} else if x > stamp {
			w.End(refused(api.ErrLost))
			return
		}
		w.on = func() {
			v := r.values[slot]
			w.on = func() {
				if r.stamps[slot] != stamp {
					w.End(refused(api.ErrLost))
					return
				}
				w.End(yes(v))
			}
		}
	}
	return nothing, false
}

func newWalkers(start []int64, threads [][]api.Op) []*walker {
	r := newShared(start)
	var walkers []*walker
	for _, ops := range threads {
		w := &walker{ring: r}
		w.Walk = plain.NewWalk(ops, &r.steps, w.begin)
		walkers = append(walkers, w)
	}
	return walkers
}

func modelPlay(start []int64, threads [][]api.Op, schedule []int, most int) (api.Trace, []*walker) {
	walkers := newWalkers(start, threads)
	return plain.Follow(walkers, schedule, most, walkers[0].ring.state), walkers
}

func traceOf(walkers []*walker) api.Trace { return plain.TraceOf(walkers, walkers[0].ring.state()) }
