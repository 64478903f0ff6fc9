package seqlock_test

import (
	"slices"
	"testing"

	"carillon/api"
	"carillon/plain"
	"carillon/seqlock"
)

// shared is what all threads share, by a plain reading of the chapter's words, and how many steps they have done.
type shared struct {
	version int64
	words   []int64
	steps   int
}

func (l *shared) state() []int64 { return append([]int64{l.version}, l.words...) }

// walker is a thread of that reading: how many of its operation's tries have failed, and what it has loaded.
type walker struct {
	plain.Walk
	lock    *shared
	failed  int64
	version int64
	found   []int64
}

func (w *walker) end(a api.Answer) {
	w.End(a)
	w.failed, w.found = 0, nil
}

// fail ends a try.
func (w *walker) fail() {
	w.failed++
	w.At, w.found = 1, nil
	if w.failed >= min(w.Op().A, api.MostTries) {
		w.end(nothing)
	}
}

func (w *walker) Step() {
	w.Count()
	switch o := w.Op(); o.Kind {
	case opWrite, opAdd:
		w.change(o)
	case opRead:
		w.read()
	case opRaw:
		w.found = append(w.found, w.lock.words[len(w.found)])
		if len(w.found) == len(w.lock.words) {
			w.end(list(true, w.found...))
		}
	case opNewer:
		w.end(api.Answer{OK: w.lock.version > o.A, N: w.lock.version})
	}
}

// load is S1 of a try.
func (w *walker) load() {
	w.version = w.lock.version
	w.At = 2
	if w.version&1 == 1 {
		w.fail()
	}
}

func (w *walker) change(o api.Op) {
	l := w.lock
	i := w.At - 3
	switch {
	case w.At == 1:
		w.load()
	case w.At == 2 && l.version != w.version:
		w.fail()
	case w.At == 2:
		l.version++
		w.At = 3
	case i == len(l.words):
		l.version = w.version + 2
		w.end(yes(0))
	default:
		v := o.B + int64(i)*o.C
		if o.Kind == opAdd {
			v += l.words[i]
		}
		l.words[i] = v
		w.At++
	}
}

func (w *walker) read() {
	l := w.lock
	i := w.At - 2
	switch {
	case w.At == 1:
		w.load()
	case i < len(l.words):
		w.found = append(w.found, l.words[i])
		w.At++
	case l.version == w.version:
		w.end(list(true, w.found...))
	default:
		w.fail()
	}
}

// writing tells whether the walker has the version odd.
func (w *walker) writing() bool {
	return !w.Ended() && changes(w.Op()) && w.At > 2
}

// changes tells of Write and Add.
func changes(o api.Op) bool { return o.Kind == opWrite || o.Kind == opAdd }

func newWalkers(start []int64, threads [][]api.Op) []*walker {
	l := &shared{words: fitted(start, max(len(start), 1))}
	var walkers []*walker
	for _, ops := range threads {
		walkers = append(walkers, &walker{Walk: plain.NewWalk(ops, &l.steps, plain.Outside(opNewer)), lock: l})
	}
	return walkers
}

func modelPlay(start []int64, threads [][]api.Op, schedule []int, most int) (api.Trace, []*walker) {
	walkers := newWalkers(start, threads)
	return plain.Follow(walkers, schedule, most, walkers[0].lock.state), walkers
}

// meeting is a run all of whose schedules behind some first steps can be gone through.
type meeting struct {
	start   []int64
	threads [][]api.Op
	ahead   []int
}

func meetings() []meeting {
	return []meeting{
		{nil, [][]api.Op{ops(writes(1, 7, 0)), ops(writes(1, 8, 0))}, nil},
		{[]int64{1, 2}, [][]api.Op{ops(writes(1, 10, 1)), ops(reads(1))}, nil},
		{[]int64{1, 2}, [][]api.Op{ops(writes(1, 10, 1)), ops(reads(2))}, nil},
		{[]int64{1, 2}, [][]api.Op{ops(writes(2, 10, 1)), ops(writes(2, 20, 1))}, nil},
		{[]int64{1, 2}, [][]api.Op{ops(adds(1, 10, 1)), ops(adds(3, 20, 1))}, nil},
		{[]int64{1, 2, 3}, [][]api.Op{ops(adds(1, 10, 1)), ops(reads(2))}, nil},
		{[]int64{1, 2, 3}, [][]api.Op{ops(writes(1, 10, 1)), ops(raws)}, nil},
		{[]int64{1, 2}, [][]api.Op{ops(writes(1, 10, 1), adds(1, 20, 0)), ops(reads(1))}, nil},
		{[]int64{1, 2}, [][]api.Op{ops(writes(1, 10, 1)), ops(newers(0), reads(1), newers(1))}, nil},
		{[]int64{1}, [][]api.Op{ops(writes(1, 10, 1)), ops(adds(1, 5, 0)), ops(newers(0))}, nil},
		{[]int64{1, 2}, [][]api.Op{ops(writes(1, 10, 1)), ops(adds(1, 5, 0)), ops(reads(1))}, plain.Turns(0, 2)},
		{[]int64{1, 2}, [][]api.Op{ops(writes(1, 10, 1)), ops(adds(2, 5, 0)), ops(reads(2))}, plain.Turns(2, 2, 1, 1, 0, 4)},
		{[]int64{1, 2}, [][]api.Op{ops(adds(1, 10, 1)), ops(adds(2, 5, 0)), ops(reads(1), reads(1))}, plain.Turns(0, 1, 1, 3, 2, 1)},
	}
}

// each hands on each schedule, with the first steps, and the walkers as they are behind it.
func (m meeting) each(see func(order []int, walkers []*walker)) {
	plain.SchedulesBehind(m.ahead, func() []*walker { return newWalkers(m.start, m.threads) }, see)
}

func traceOf(walkers []*walker) api.Trace { return plain.TraceOf(walkers, walkers[0].lock.state()) }

// states is what the state was ahead of each step of a run, and behind the last.
func states(start []int64, threads [][]api.Op, order []int) [][]int64 {
	var all [][]int64
	for done := range len(order) + 1 {
		all = append(all, seqlock.Play(start, threads, order, done).State)
	}
	return all
}

// steps are where a thread's steps stand in the order, from its first one up to one.
func steps(order []int, thread, last int) []int {
	var all []int
	for i, n := range order[:last+1] {
		if n == thread {
			all = append(all, i)
		}
	}
	return all
}

// checkStood holds each Read that answers true against P8.5: from its S2 up to its S(n+1) the words stood there together. It tells how many there are.
func checkStood(t *testing.T, order []int, walkers []*walker, states [][]int64) int {
	t.Helper()
	n, count := len(states[0])-1, 0
	for thread, w := range walkers {
		w.Each(func(o api.Op, a api.Answer, at plain.Span) {
			if o.Kind != opRead || !a.OK {
				return
			}
			count++
			mine := steps(order, thread, at.Last)
			first, last := mine[len(mine)-1-n], mine[len(mine)-2]
			for _, state := range states[first : last+2] {
				if !slices.Equal(state[1:], a.List) {
					t.Fatalf("%v: thread %d has read %v, and there stood %v", order, thread, a.List, states[first:last+2])
				}
			}
		})
	}
	return count
}

// TestEverySchedule is P8.5, and P1 and P8, over every schedule of some threads.
func TestEverySchedule(t *testing.T) {
	reads, torn := 0, 0
	for i, m := range meetings() {
		runs := 0
		m.each(func(order []int, walkers []*walker) {
			runs++
			want, got := traceOf(walkers), seqlock.Play(m.start, m.threads, order, 999)
			if want.Order = order; !plain.Same(got, want) {
				t.Fatalf("%d: %v\n%+v\n%+v", i, order, got, want)
			}
			reads += checkStood(t, order, walkers, states(m.start, m.threads, order))
			if !plain.InSomeOrder(walkers[0].first(m.start), doneOf(walkers, got.State[1:])) {
				t.Fatalf("%d: %v: no order of the operations gives %+v", i, order, got)
			}
			if last := got.Answers[len(got.Answers)-1][0].List; m.threads[len(m.threads)-1][0] == raws && last[0] != last[1]-1 {
				torn++
			}
		})
		if runs < 15 || runs > 8000 {
			t.Error(i, "there are", runs)
		}
	}
	if reads == 0 || torn == 0 {
		t.Error(reads, "have been read, and", torn, "were of several writes")
	}
}

// TestEveryStep is P1 behind each step of many schedules: one thread at a time writes, and the version is odd as long as it does.
func TestEveryStep(t *testing.T) {
	c, odd := dice(4), 0
	for range 500 {
		start, threads := c.numbers(c.between(0, 3)), c.threads(3, 4)
		schedule := c.schedule(0, 2, 16)
		for most := 0; ; most++ {
			run := seqlock.Play(start, threads, schedule, most)
			want, walkers := modelPlay(start, threads, schedule, most)
			if !plain.Same(run, want) {
				t.Fatalf("%v %v %v %d\n%+v\n%+v", start, threads, schedule, most, run, want)
			}
			done, now := writers(walkers)
			if now > 1 || run.State[0] != 2*done+now {
				t.Fatal("the version is", run.State[0], "of", done, "writes and", now, "that go on")
			}
			odd += int(now)
			if !run.Stuck {
				break
			}
		}
	}
	if odd == 0 {
		t.Error("nobody writes")
	}
}

// writers is how many Writes and Adds are done, and how many have begun to write.
func writers(walkers []*walker) (done, now int64) {
	for _, w := range walkers {
		w.Each(func(o api.Op, a api.Answer, _ plain.Span) {
			if a.OK && changes(o) {
				done++
			}
		})
		if w.writing() {
			now++
		}
	}
	return done, now
}

// TestAsSomeOrder: the Writes and Adds that are done follow on one another whole, and each Read has what is there between two of them.
func TestAsSomeOrder(t *testing.T) {
	c, several := dice(5), 0
	for range 1500 {
		start, threads, schedule := c.numbers(c.between(0, 3)), c.threads(4, 5), c.schedule(0, 3, 30)
		want, walkers := modelPlay(start, threads, schedule, 9999)
		got := seqlock.Play(start, threads, schedule, 9999)
		if !plain.Same(got, want) {
			t.Fatalf("%v %v %v\n%+v\n%+v", start, threads, schedule, got, want)
		}
		if !plain.InSomeOrder(walkers[0].first(start), doneOf(walkers, got.State[1:])) {
			t.Fatalf("%v %v %v: no order of the operations gives %+v", start, threads, schedule, want)
		}
		if checkStood(t, got.Order, walkers, states(start, threads, got.Order)) > 0 && got.State[0] > 2 {
			several++
		}
	}
	if several == 0 {
		t.Error("no run has Writes and Reads")
	}
}

// first is the words at first, also of a start that has none.
func (w *walker) first(start []int64) []int64 { return fitted(start, len(w.lock.words)) }

// doneOf are the Writes, Adds and Reads that are done; and at last, behind all of them, one who finds what is left.
func doneOf(walkers []*walker, left []int64) [][]plain.Done[[]int64] {
	var lists [][]plain.Done[[]int64]
	for _, w := range walkers {
		lists = append(lists, plain.DoneOf(&w.Walk, on))
	}
	end := walkers[0].lock.steps
	return append(lists, []plain.Done[[]int64]{{First: end, Last: end, On: on(reads(1), list(true, left...))}})
}

// on does an operation that is done on the words; false if it answers something else.
func on(o api.Op, a api.Answer) func(words []int64) ([]int64, bool) {
	switch {
	case !a.OK || !changes(o) && o.Kind != opRead:
		return nil
	case o.Kind == opRead:
		return func(words []int64) ([]int64, bool) { return words, slices.Equal(words, a.List) }
	}
	return func(words []int64) ([]int64, bool) {
		after := slices.Clone(words)
		for i := range after {
			v := o.B + int64(i)*o.C
			if o.Kind == opAdd {
				v += after[i]
			}
			after[i] = v
		}
		return after, true
	}
}
