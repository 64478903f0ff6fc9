package queue_test

import (
	"slices"
	"testing"

	"carillon/api"
	"carillon/plain"
	"carillon/queue"
)

// line is what all threads share, by a plain reading of the chapter's words: the boxes are numbered in the order in which they were laid in, the first one has no value, and the next one of each but the last is the one behind it.
type line struct {
	values     []int64
	head, tail int
	steps      int
}

func (l *line) last(box int) bool { return box == len(l.values)-1 }

func (l *line) state() []int64 {
	return append([]int64{int64(len(l.values) - 1 - l.tail)}, l.values[l.head+1:]...)
}

// swap is a compare-and-swap of the head or the tail.
func swap(place *int, from, to int) bool {
	if *place != from {
		return false
	}
	*place = to
	return true
}

// span is where an operation's first and last step stand in the run; of an operation without steps both are -1.
type span struct{ first, last int }

// walker is a thread of that reading: at which step its operation stands, and what it has loaded.
type walker struct {
	line       *line
	ops        []api.Op
	answers    []api.Answer
	spans      []span
	at         int
	now        span
	head, tail int
	own        int
}

func (w *walker) Ended() bool { return len(w.answers) == len(w.ops) }

func (w *walker) op() api.Op { return w.ops[len(w.answers)] }

func (w *walker) end(a api.Answer) {
	w.answers, w.spans = append(w.answers, a), append(w.spans, w.now)
	w.at, w.now = 1, span{-1, -1}
}

// advance passes over the operations that have no step.
func (w *walker) advance() {
	for !w.Ended() && (w.op().Kind < opPut || w.op().Kind > opEmpty) {
		w.end(nothing)
	}
}

func (w *walker) Step() {
	if w.now.first < 0 {
		w.now.first = w.line.steps
	}
	w.now.last = w.line.steps
	w.line.steps++
	switch o := w.op(); o.Kind {
	case opPut:
		w.put(o.A)
	case opTake:
		w.take()
	case opEmpty:
		w.empty()
	}
	w.advance()
}

func (w *walker) put(v int64) {
	l := w.line
	switch w.at {
	case 1:
		w.tail = l.tail
		w.at = 2
	case 2:
		w.at = 3
		if l.last(w.tail) {
			w.at = 4
		}
	case 3:
		swap(&l.tail, w.tail, w.tail+1)
		w.at = 1
	case 4:
		if !l.last(w.tail) {
			w.at = 1
			return
		}
		l.values = append(l.values, v)
		w.own = len(l.values) - 1
		w.at = 5
	case 5:
		swap(&l.tail, w.tail, w.own)
		w.end(yes(0))
	}
}

func (w *walker) take() {
	l := w.line
	switch w.at {
	case 1:
		w.head = l.head
		w.at = 2
	case 2:
		w.tail = l.tail
		w.at = 3
	case 3:
		if l.last(w.head) {
			w.end(nothing)
			return
		}
		w.at = 5
		if w.head == w.tail {
			w.at = 4
		}
	case 4:
		swap(&l.tail, w.tail, w.head+1)
		w.at = 1
	case 5:
		if swap(&l.head, w.head, w.head+1) {
			w.end(yes(l.values[w.head+1]))
			return
		}
		w.at = 1
	}
}

func (w *walker) empty() {
	if w.at == 1 {
		w.head = w.line.head
		w.at = 2
		return
	}
	answer := yes(0)
	if w.line.last(w.head) {
		answer.N = 1
	}
	w.end(answer)
}

// laid is what Puts that have not ended have laid in.
func laid(walkers []*walker) []int64 {
	var all []int64
	for _, w := range walkers {
		if !w.Ended() && w.op().Kind == opPut && w.at == 5 {
			all = append(all, w.op().A)
		}
	}
	return all
}

func newWalkers(start []int64, threads [][]api.Op) []*walker {
	l := &line{values: append([]int64{0}, start...), tail: len(start)}
	var walkers []*walker
	for _, ops := range threads {
		w := &walker{line: l, ops: ops, at: 1, now: span{-1, -1}}
		w.advance()
		walkers = append(walkers, w)
	}
	return walkers
}

// traceOf is what walkers, one at least, have answered and left.
func traceOf(walkers []*walker) api.Trace {
	run := api.Trace{State: walkers[0].line.state()}
	for _, w := range walkers {
		run.Answers = append(run.Answers, w.answers)
	}
	return run
}

func modelPlay(start []int64, threads [][]api.Op, schedule []int, most int) (api.Trace, []*walker) {
	walkers := newWalkers(start, threads)
	order, stuck := plain.Run(walkers, schedule, most)
	run := traceOf(walkers)
	run.Order, run.Stuck = order, stuck
	return run, walkers
}

// meeting is a run all of whose schedules behind some first steps can be gone through.
type meeting struct {
	start   []int64
	threads [][]api.Op
	ahead   []int
}

func meetings() []meeting {
	return []meeting{
		{nil, [][]api.Op{ops(puts(1)), ops(puts(2))}, nil},
		{nil, [][]api.Op{ops(puts(1)), ops(takes)}, nil},
		{nil, [][]api.Op{ops(puts(1)), ops(takes, empties)}, nil},
		{nil, [][]api.Op{ops(puts(1), takes), ops(empties, empties)}, nil},
		{[]int64{-2, -1}, [][]api.Op{ops(takes), ops(takes)}, nil},
		{[]int64{-1}, [][]api.Op{ops(takes), ops(takes)}, nil},
		{[]int64{-1}, [][]api.Op{ops(takes), ops(empties), ops(empties)}, nil},
		{[]int64{-1}, [][]api.Op{ops(takes), ops(puts(2), takes)}, nil},
		{nil, [][]api.Op{ops(puts(1), puts(2)), ops(takes)}, nil},
		{nil, [][]api.Op{ops(puts(1)), ops(takes), ops(empties)}, nil},
		// A tail that lies behind.
		{nil, [][]api.Op{ops(puts(1)), ops(puts(2)), ops(takes)}, plain.Turns(0, 3, 1, 2, 2, 1)},
		{nil, [][]api.Op{ops(puts(1)), ops(puts(2)), ops(takes)}, plain.Turns(0, 2, 1, 3, 2, 2)},
		{nil, [][]api.Op{ops(puts(1)), ops(puts(2)), ops(puts(3))}, plain.Turns(0, 3, 1, 3)},
		{nil, [][]api.Op{ops(puts(1), takes), ops(puts(2)), ops(takes)}, plain.Turns(0, 3, 1, 6, 2, 3)},
		{[]int64{-1}, [][]api.Op{ops(takes), ops(puts(2), takes), ops(takes)}, plain.Turns(0, 1, 1, 3, 2, 4)},
	}
}

// each hands on each schedule, with the first steps, and the walkers as they are behind it.
func (m meeting) each(see func(order []int, walkers []*walker)) {
	fresh := func() []*walker {
		walkers := newWalkers(m.start, m.threads)
		plain.Run(walkers, m.ahead, len(m.ahead))
		return walkers
	}
	plain.Schedules(fresh, func(order []int, walkers []*walker) { see(slices.Concat(m.ahead, order), walkers) })
}

// TestEverySchedule is P7.7, and P1, over every schedule of some threads.
func TestEverySchedule(t *testing.T) {
	for i, m := range meetings() {
		runs := 0
		m.each(func(order []int, walkers []*walker) {
			runs++
			want, got := traceOf(walkers), queue.Play(m.start, m.threads, order, 999)
			if want.Order = order; !plain.Same(got, want) {
				t.Fatalf("%d: %v\n%+v\n%+v", i, order, got, want)
			}
			checkKept(t, m.start, m.threads, got, nil)
			if !plain.InSomeOrder(m.start, doneOf(walkers)) {
				t.Fatalf("%d: %v: no order of the operations gives %+v", i, order, got.Answers)
			}
		})
		if runs < 15 {
			t.Error(i, "only", runs)
		}
	}
}

// TestEveryStep is P7.7, and P7.5's 0 or 1, behind each step of many schedules.
func TestEveryStep(t *testing.T) {
	c, unended, behind := dice(4), 0, 0
	for range 500 {
		start, threads := c.start(3), c.threads(3, 4)
		schedule := c.schedule(0, 2, 16)
		for most := 0; ; most++ {
			run := queue.Play(start, threads, schedule, most)
			want, walkers := modelPlay(start, threads, schedule, most)
			if !plain.Same(run, want) {
				t.Fatalf("%v %v %v %d\n%+v\n%+v", start, threads, schedule, most, run, want)
			}
			checkKept(t, start, threads, run, laid(walkers))
			if b := run.State[0]; b != 0 && b != 1 || b == 1 && len(laid(walkers)) == 0 {
				t.Fatal("the tail lies behind", b, run, laid(walkers))
			}
			unended += len(laid(walkers))
			behind += int(run.State[0])
			if !run.Stuck {
				break
			}
		}
	}
	if unended == 0 || behind == 0 || unended == behind {
		t.Error(unended, behind)
	}
}

// checkKept holds a run against P7.7: nothing is taken twice, or lost, and what one thread has put in (or what was there at first) is taken, and left, in its order. No two values may be the same, and each thread's must rise. laid: of Puts that have not ended.
func checkKept(t *testing.T, start []int64, threads [][]api.Op, run api.Trace, laid []int64) {
	t.Helper()
	in, taken := slices.Concat(start, laid), []int64(nil)
	from := map[int64]int{}
	for n, list := range run.Answers {
		for i, o := range threads[n] {
			switch {
			case o.Kind == opPut:
				from[o.A] = n + 1
				if i < len(list) {
					in = append(in, o.A)
				}
			case i < len(list) && o.Kind == opTake && list[i].OK:
				taken = append(taken, list[i].N)
			}
		}
	}
	left := run.State[1:]
	if out := slices.Concat(taken, left); !slices.Equal(slices.Sorted(slices.Values(in)), slices.Sorted(slices.Values(out))) {
		t.Fatalf("%v: put in %v, taken %v, left %v", threads, in, taken, left)
	}
	last := make([]int64, len(threads)+1)
	for i := range last {
		last[i] = -1 << 60
	}
	// Whatever has been taken, by whomsoever, stood ahead of what is left.
	for _, v := range taken {
		last[from[v]] = max(last[from[v]], v)
	}
	checkLists(t, from, run, threads)
	for _, v := range left {
		if v < last[from[v]] {
			t.Fatalf("%v: %d is left behind %d", threads, v, last[from[v]])
		}
		last[from[v]] = v
	}
}

// checkLists holds what each thread alone has taken against the order in which it was put in.
func checkLists(t *testing.T, from map[int64]int, run api.Trace, threads [][]api.Op) {
	t.Helper()
	for n, list := range run.Answers {
		last := map[int]int64{}
		for i, a := range list {
			if threads[n][i].Kind != opTake || !a.OK {
				continue
			}
			if before, there := last[from[a.N]]; there && a.N < before {
				t.Fatalf("%v: thread %d has taken %d behind %d", threads, n, a.N, before)
			}
			last[from[a.N]] = a.N
		}
	}
}

// TestAsSomeOrder: what many threads answer is what a queue answers that is asked by one.
func TestAsSomeOrder(t *testing.T) {
	c := dice(5)
	for range 10000 {
		start, threads, schedule := c.start(3), c.threads(4, 5), c.schedule(0, 3, 30)
		want, walkers := modelPlay(start, threads, schedule, 9999)
		if got := queue.Play(start, threads, schedule, 9999); !plain.Same(got, want) {
			t.Fatalf("%v %v %v\n%+v\n%+v", start, threads, schedule, got, want)
		}
		checkKept(t, start, threads, want, nil)
		if !plain.InSomeOrder(start, doneOf(walkers)) {
			t.Fatalf("%v %v %v: no order of the operations gives %+v", start, threads, schedule, want)
		}
	}
}

func doneOf(walkers []*walker) [][]plain.Done[[]int64] {
	var lists [][]plain.Done[[]int64]
	for _, w := range walkers {
		var list []plain.Done[[]int64]
		for i, a := range w.answers {
			if x := w.spans[i]; x.first >= 0 {
				list = append(list, plain.Done[[]int64]{First: x.first, Last: x.last, On: on(w.ops[i], a)})
			}
		}
		lists = append(lists, list)
	}
	return lists
}

// on does an operation on a queue's values; false if it answers something else.
func on(o api.Op, a api.Answer) func(values []int64) ([]int64, bool) {
	return func(values []int64) ([]int64, bool) {
		none := len(values) == 0
		switch {
		case o.Kind == opPut:
			return append(slices.Clone(values), o.A), a.OK && a.N == 0
		case o.Kind == opEmpty:
			return values, a.OK && (a.N == 1) == none
		case none:
			return values, !a.OK && a.N == 0
		}
		return values[1:], a.OK && a.N == values[0]
	}
}
