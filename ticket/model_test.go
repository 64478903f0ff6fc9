package ticket_test

import (
	"slices"
	"testing"

	"carillon/api"
	"carillon/plain"
	"carillon/ticket"
)

// shared is what all threads share, by a plain reading of the chapter's words, and how many steps they have done.
type shared struct {
	next, serving, word int64
	x, y, z             int64
	steps               int
}

func (m *shared) state() []int64 { return []int64{m.next, m.serving, m.word, m.x, m.y, m.z} }

// walker is a thread of that reading: how many of its operation's tries have failed, what it goes in or out by, and what it has loaded.
type walker struct {
	plain.Walk
	all    *shared
	failed int64
	by     int64
	loaded []int64
}

func (w *walker) end(a api.Answer) {
	w.End(a)
	w.failed, w.loaded = 0, nil
}

// fail ends a try.
func (w *walker) fail(tries int64) {
	w.failed++
	w.At = 1
	if w.failed >= min(tries, api.MostTries) {
		w.end(nothing)
	}
}

// in goes on behind what lets in, where the operation is no more than that.
func (w *walker) in(only bool, a api.Answer) {
	w.At++
	if only {
		w.end(a)
	}
}

func (w *walker) Step() {
	w.Count()
	switch m, o := w.all, w.Op(); o.Kind {
	case opDraw:
		m.next++
		w.end(yes(m.next - 1))
	case opCalled:
		if m.serving != o.A {
			w.fail(o.B)
		} else {
			w.end(yes(0))
		}
	case opLeave:
		w.end(truth(turned(&m.serving, o.A, o.A+1)))
	case opTry, opWork:
		w.work(o)
	case opReadIn, opLook:
		w.look(o)
	case opReadOut:
		w.readOut(1, yes(0))
	case opWriteIn, opChange:
		w.change(o)
	case opWriteOut:
		w.end(truth(turned(&m.word, -1, 0)))
	}
}

// turned is a compare-and-swap.
func turned(place *int64, from, to int64) bool {
	is := *place == from
	if is {
		*place = to
	}
	return is
}

func (w *walker) load(n int64) {
	w.loaded = append(w.loaded, n)
	w.At++
}

func (w *walker) work(o api.Op) {
	m := w.all
	switch w.At {
	case 1:
		w.by = m.serving
		w.At = 2
	case 2:
		if turned(&m.next, w.by, w.by+1) {
			w.in(o.Kind == opTry, yes(w.by))
		} else {
			w.fail(o.A)
		}
	case 3:
		w.load(m.x)
	case 4:
		m.x = w.loaded[0] + o.B
		w.At = 5
	case 5:
		turned(&m.serving, w.by, w.by+1)
		w.end(yes(w.loaded[0]))
	}
}

func (w *walker) look(o api.Op) {
	m := w.all
	switch w.At {
	case 1:
		w.by = m.word
		if w.by >= 0 && w.by < api.MostSequence {
			w.At = 2
		} else {
			w.fail(o.A)
		}
	case 2:
		if turned(&m.word, w.by, w.by+1) {
			w.in(o.Kind == opReadIn, yes(0))
		} else {
			w.fail(o.A)
		}
	case 3:
		w.load(m.y)
	case 4:
		w.load(m.z)
	default:
		w.readOut(5, api.Answer{OK: true, List: w.loaded})
	}
}

// readOut has its S1 at the step first. Only of a ReadOut itself does it matter that nobody is in.
func (w *walker) readOut(first int, a api.Answer) {
	m := w.all
	switch {
	case w.At != first && turned(&m.word, w.by, w.by-1):
		w.end(a)
	case w.At != first:
		w.At = first
	case m.word > 0:
		w.by = m.word
		w.At++
	case first == 1:
		w.end(nothing)
	default:
		w.end(a)
	}
}

func (w *walker) change(o api.Op) {
	m := w.all
	switch w.At {
	case 1:
		if turned(&m.word, 0, -1) {
			w.in(o.Kind == opWriteIn, yes(0))
		} else {
			w.fail(o.A)
		}
	case 2:
		w.load(m.y)
	case 3:
		m.y = w.loaded[0] + o.B
		w.At = 4
	case 4:
		w.load(m.z)
	case 5:
		m.z = w.loaded[1] + o.B
		w.At = 6
	case 6:
		turned(&m.word, -1, 0)
		w.end(yes(w.loaded[0]))
	}
}

// isIn tells whether the walker is within an operation of that kind behind the step that let it in.
func (w *walker) isIn(kind int) bool {
	first := 3
	if kind == opChange {
		first = 2
	}
	return !w.Ended() && w.Op().Kind == kind && w.At >= first
}

func count(walkers []*walker, kind int) int64 {
	n := int64(0)
	for _, w := range walkers {
		if w.isIn(kind) {
			n++
		}
	}
	return n
}

func newWalkers(threads [][]api.Op) []*walker {
	m := &shared{}
	var walkers []*walker
	for _, ops := range threads {
		walkers = append(walkers, &walker{Walk: plain.NewWalk(ops, &m.steps, plain.Outside(opChange)), all: m})
	}
	return walkers
}

func modelPlay(threads [][]api.Op, schedule []int, most int) (api.Trace, []*walker) {
	walkers := newWalkers(threads)
	return plain.Follow(walkers, schedule, most, walkers[0].all.state), walkers
}

func traceOf(walkers []*walker) api.Trace { return plain.TraceOf(walkers, walkers[0].all.state()) }

// meeting is a run all of whose schedules behind some first steps can be gone through.
type meeting struct {
	threads [][]api.Op
	ahead   []int
}

func (m meeting) each(see func(order []int, walkers []*walker)) {
	plain.SchedulesBehind(m.ahead, func() []*walker { return newWalkers(m.threads) }, see)
}

// meetings are of Works, Looks and Changes alone, and then of others too.
func meetings() []meeting {
	return []meeting{
		{[][]api.Op{ops(works(1, 5)), ops(works(1, 5))}, nil},
		{[][]api.Op{ops(works(2, 5)), ops(works(3, 7))}, nil},
		{[][]api.Op{ops(works(1, 5), works(1, 6)), ops(works(2, 7))}, nil},
		{[][]api.Op{ops(works(1, 1)), ops(works(1, 2)), ops(works(1, 4))}, nil},
		{[][]api.Op{ops(works(1, 1)), ops(works(2, 2)), ops(works(3, 4))}, plain.Turns(1, 1, 2, 1, 0, 3)},
		{[][]api.Op{ops(changes(1, 5)), ops(changes(2, 6))}, nil},
		{[][]api.Op{ops(looks(1)), ops(changes(1, 5))}, nil},
		{[][]api.Op{ops(looks(3)), ops(changes(3, 5))}, nil},
		{[][]api.Op{ops(looks(2)), ops(changes(1, 5), changes(1, 6))}, nil},
		{[][]api.Op{ops(looks(1)), ops(looks(2)), ops(changes(2, 6))}, plain.Turns(0, 2, 1, 3)},
		{[][]api.Op{ops(looks(1)), ops(changes(2, 5)), ops(changes(1, 6))}, plain.Turns(0, 4)},
		{[][]api.Op{ops(looks(1)), ops(looks(2)), ops(changes(1, 6))}, plain.Turns(2, 4)},
		{[][]api.Op{ops(works(1, 5)), ops(looks(1), works(1, 3))}, nil},
		{[][]api.Op{ops(draws, calleds(0, 1)), ops(trys(2)), ops(works(1, 3))}, nil},
		{[][]api.Op{ops(draws, leaves(0)), ops(draws, leaves(1)), ops(calleds(1, 3))}, nil},
		{[][]api.Op{ops(works(2, 5)), ops(leaves(0)), ops(works(1, 7))}, nil},
		{[][]api.Op{ops(readIns(1), readOuts), ops(readIns(2), readOuts), ops(writeIns(1))}, nil},
		{[][]api.Op{ops(looks(1)), ops(writeIns(1), writeOuts), ops(readOuts)}, nil},
		{[][]api.Op{ops(readOuts, readOuts), ops(looks(1)), ops(readIns(1))}, plain.Turns(2, 2)},
		{[][]api.Op{ops(changes(1, 5)), ops(writeOuts), ops(looks(2))}, nil},
	}
}

// alone tells whether all that is done goes in and out by itself.
func (m meeting) alone() bool {
	for _, o := range slices.Concat(m.threads...) {
		if !slices.Contains(whole(), o.Kind) {
			return false
		}
	}
	return true
}

// TestEverySchedule is P1 and P9.10 over every schedule of some threads.
func TestEverySchedule(t *testing.T) {
	outcomes := map[string]bool{}
	for i, m := range meetings() {
		runs, alone := 0, m.alone()
		m.each(func(order []int, walkers []*walker) {
			runs++
			want, got := traceOf(walkers), ticket.Play(m.threads, order, 999)
			if want.Order = order; !plain.Same(got, want) {
				t.Fatalf("%d: %v\n%+v\n%+v", i, order, got, want)
			}
			outcomes[plain.Outcome(got)] = true
			if alone && !inOrder(walkers, got.State) {
				t.Fatalf("%d: %v: no order of the operations gives %+v", i, order, got)
			}
		})
		if runs < 15 || runs > 20000 {
			t.Error(i, "there are", runs)
		}
	}
	if len(outcomes) < 3*len(meetings()) {
		t.Error(len(outcomes))
	}
}

// TestEveryStep is P9.8 behind each step of runs of Works, Looks and Changes: who is in by the lock, and by the gate.
func TestEveryStep(t *testing.T) {
	c, together, worked, changed := dice(4), int64(0), int64(0), int64(0)
	for range 600 {
		threads, schedule := c.threads(3, 4, whole()), c.schedule(0, 2, 16)
		for most := 0; ; most++ {
			run := ticket.Play(threads, schedule, most)
			want, walkers := modelPlay(threads, schedule, most)
			if !plain.Same(run, want) {
				t.Fatalf("%v %v %d\n%+v\n%+v", threads, schedule, most, run, want)
			}
			working, reading, writing := count(walkers, opWork), count(walkers, opLook), count(walkers, opChange)
			if working > 1 || run.State[0]-run.State[1] != working {
				t.Fatal(working, "are in by the lock, and it holds", run.State)
			}
			if writing > 1 || writing*reading != 0 || run.State[2] != reading-writing {
				t.Fatal(reading, "readers and", writing, "writers are in by the gate, and it holds", run.State)
			}
			together, worked, changed = max(together, reading), worked+working, changed+writing
			if !run.Stuck {
				break
			}
		}
	}
	if together != 3 || worked == 0 || changed == 0 {
		t.Error(together, worked, changed)
	}
}

// TestAsSomeOrder is P9.10 of greater runs.
func TestAsSomeOrder(t *testing.T) {
	c := dice(5)
	for range 2000 {
		threads, schedule := c.threads(4, 5, whole()), c.schedule(0, 3, 40)
		want, walkers := modelPlay(threads, schedule, 9999)
		got := ticket.Play(threads, schedule, 9999)
		if !plain.Same(got, want) {
			t.Fatalf("%v %v\n%+v\n%+v", threads, schedule, got, want)
		}
		if !inOrder(walkers, got.State) {
			t.Fatalf("%v %v: no order of the operations gives %+v", threads, schedule, got)
		}
	}
}

// sumsOf is what the Works and the Changes have added, as they follow on one another.
type sumsOf struct{ x, y int64 }

// inOrder tells whether the operations that are done can follow on one another whole, with what is left behind them all: nobody is in, and Y and Z are the same.
func inOrder(walkers []*walker, left []int64) bool {
	var lists [][]plain.Done[sumsOf]
	done := int64(0)
	for _, w := range walkers {
		lists = append(lists, plain.DoneOf(&w.Walk, on))
		w.Each(func(o api.Op, a api.Answer, _ plain.Span) {
			if a.OK && o.Kind == opWork {
				done++
			}
		})
	}
	end := walkers[0].all.steps
	last := func(at sumsOf) (sumsOf, bool) {
		return at, slices.Equal(left, []int64{done, done, 0, at.x, at.y, at.y})
	}
	return plain.InSomeOrder(sumsOf{}, append(lists, []plain.Done[sumsOf]{{First: end, Last: end, On: last}}))
}

// on does an operation that is done; false if it answers something else.
func on(o api.Op, a api.Answer) func(at sumsOf) (sumsOf, bool) {
	if !a.OK {
		return nil
	}
	return func(at sumsOf) (sumsOf, bool) {
		switch o.Kind {
		case opWork:
			return sumsOf{at.x + o.B, at.y}, a.N == at.x
		case opChange:
			return sumsOf{at.x, at.y + o.B}, a.N == at.y
		}
		return at, slices.Equal(a.List, []int64{at.y, at.y})
	}
}
