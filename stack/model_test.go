package stack_test

import (
	"slices"
	"testing"

	"carillon/api"
	"carillon/plain"
	"carillon/stack"
)

// top is what stands in a head.
type top struct{ node, tag int64 }

// arena is what all threads share, by a plain reading of the chapter's words.
type arena struct {
	tagged        bool
	nexts, values []int64
	head, free    top
	steps         int
}

func newArena(size int, tagged bool) *arena {
	size = min(max(size, 1), api.MostSize)
	a := &arena{tagged: tagged, values: make([]int64, size), head: top{node: -1}}
	for i := range size {
		a.nexts = append(a.nexts, int64(i+1))
	}
	a.nexts[size-1] = -1
	return a
}

func (a *arena) turn(head *top, loaded top, node int64) bool {
	if *head != loaded {
		return false
	}
	*head = top{node: node}
	if a.tagged {
		head.tag = (loaded.tag + 1) % (1 << 31)
	}
	return true
}

func (a *arena) state() []int64 {
	all := []int64{a.head.node, a.head.tag, a.free.node, a.free.tag}
	for i := a.head.node; i >= 0 && len(all) < 4+len(a.nexts); i = a.nexts[i] {
		all = append(all, a.values[i])
	}
	return all
}

// span is where an operation's first and last step stand in the run; of an operation without steps both are -1.
type span struct{ first, last int }

// walker is a thread of that reading: at which step its operation stands, and what it has loaded.
type walker struct {
	arena   *arena
	ops     []api.Op
	answers []api.Answer
	spans   []span
	at      int
	now     span
	loaded  top
	next    int64
	value   int64
}

func (w *walker) Ended() bool { return len(w.answers) == len(w.ops) }

func (w *walker) end(a api.Answer) {
	w.answers, w.spans = append(w.answers, a), append(w.spans, w.now)
	w.at, w.now = 1, span{-1, -1}
}

// advance passes over the operations that have no step.
func (w *walker) advance() {
	for !w.Ended() && (w.ops[len(w.answers)].Kind < opPush || w.ops[len(w.answers)].Kind > opEmpty) {
		w.end(nothing)
	}
}

func (w *walker) Step() {
	if w.now.first < 0 {
		w.now.first = w.arena.steps
	}
	w.now.last = w.arena.steps
	w.arena.steps++
	o := w.ops[len(w.answers)]
	switch o.Kind {
	case opPush:
		w.push(o.A)
	case opPop:
		w.pop()
	case opPeek:
		w.peek()
	case opEmpty:
		w.end(api.Answer{OK: w.arena.head.node == -1})
	}
	w.advance()
}

func (w *walker) push(v int64) {
	a := w.arena
	switch w.at {
	case 1:
		if w.loaded = a.free; w.loaded.node == -1 {
			w.end(nothing)
			return
		}
	case 2:
		w.next = a.nexts[w.loaded.node]
	case 3:
		if !a.turn(&a.free, w.loaded, w.next) {
			w.at = 1
			return
		}
		w.next = w.loaded.node
	case 4:
		a.values[w.next] = v
	default:
		w.lay(&a.head, yes(0))
		return
	}
	w.at++
}

func (w *walker) pop() {
	a := w.arena
	switch w.at {
	case 1:
		if w.loaded = a.head; w.loaded.node == -1 {
			w.end(nothing)
			return
		}
	case 2:
		w.next = a.nexts[w.loaded.node]
	case 3:
		if !a.turn(&a.head, w.loaded, w.next) {
			w.at = 1
			return
		}
		w.next = w.loaded.node
	case 4:
		w.value = a.values[w.next]
	default:
		w.lay(&a.free, yes(w.value))
		return
	}
	w.at++
}

// lay is S5 to S7 of both, of the node that is the thread's by then, which stands in next.
func (w *walker) lay(head *top, answer api.Answer) {
	a := w.arena
	switch w.at {
	case 5:
		w.loaded = *head
	case 6:
		a.nexts[w.next] = w.loaded.node
	case 7:
		if a.turn(head, w.loaded, w.next) {
			w.end(answer)
			return
		}
		w.at = 5
		return
	}
	w.at++
}

func (w *walker) peek() {
	a := w.arena
	if w.at == 2 {
		w.value = a.values[w.loaded.node]
		w.at++
		return
	}
	if w.at == 3 && w.loaded == a.head {
		w.end(yes(w.value))
		return
	}
	if w.loaded = a.head; w.loaded.node == -1 {
		w.end(nothing)
		return
	}
	w.at = 2
}

// holds is the value that a Pop has taken from the stack, and not yet told.
func (w *walker) holds() []int64 {
	if w.Ended() || w.ops[len(w.answers)].Kind != opPop || w.at < 4 {
		return nil
	}
	return []int64{w.arena.values[w.next]}
}

func held(walkers []*walker) []int64 {
	var all []int64
	for _, w := range walkers {
		all = append(all, w.holds()...)
	}
	return all
}

func newWalkers(size int, tagged bool, threads [][]api.Op) []*walker {
	a := newArena(size, tagged)
	var walkers []*walker
	for _, ops := range threads {
		w := &walker{arena: a, ops: ops, at: 1, now: span{-1, -1}}
		w.advance()
		walkers = append(walkers, w)
	}
	return walkers
}

// traceOf is what walkers, one at least, have answered and left.
func traceOf(walkers []*walker) api.Trace {
	run := api.Trace{State: walkers[0].arena.state()}
	for _, w := range walkers {
		run.Answers = append(run.Answers, w.answers)
	}
	return run
}

func modelPlay(size int, tagged bool, threads [][]api.Op, schedule []int, most int) (api.Trace, []*walker) {
	walkers := newWalkers(size, tagged, threads)
	order, stuck := plain.Run(walkers, schedule, most)
	run := traceOf(walkers)
	run.Order, run.Stuck = order, stuck
	return run, walkers
}

// meeting is a run all of whose schedules behind some first steps can be gone through.
type meeting struct {
	size    int
	threads [][]api.Op
	ahead   []int
}

func meetings() []meeting {
	return []meeting{
		{2, [][]api.Op{ops(pushes(1)), ops(pushes(2))}, nil},
		{1, [][]api.Op{ops(pushes(1)), ops(pushes(2), pops)}, nil},
		{2, [][]api.Op{ops(pushes(1)), ops(pops, empties, peeks)}, nil},
		{1, [][]api.Op{ops(pushes(1)), ops(pops), ops(empties)}, nil},
		{2, [][]api.Op{ops(pushes(1), pops), ops(pops)}, turns(0, 7)},
		{2, [][]api.Op{ops(pushes(1), pushes(2), pops), ops(pops)}, turns(0, 14)},
		{1, [][]api.Op{ops(pushes(1), pops), ops(pushes(2))}, turns(0, 7)},
		{2, [][]api.Op{ops(pushes(1), pops), ops(pushes(2))}, turns(0, 7)},
		{2, [][]api.Op{ops(pushes(1), pushes(2), pops), ops(peeks, peeks)}, turns(0, 14)},
		{2, [][]api.Op{ops(pushes(1), pops), ops(peeks), ops(empties, empties)}, turns(0, 7)},
		// What the chapter says of tags: thread 0 has loaded the head and its next.
		{2, [][]api.Op{ops(pops), ops(pushes(8), pushes(7), pops, pops, pushes(4))}, turns(1, 14, 0, 2, 1, 14)},
		{2, [][]api.Op{ops(pops), ops(pushes(8), pushes(7), pops, pops, pushes(4)), ops(pushes(9))}, turns(1, 14, 0, 2, 1, 14, 2, 3, 1, 6)},
		{2, [][]api.Op{ops(peeks), ops(pushes(8), pops, pushes(7))}, turns(1, 7, 0, 1)},
	}
}

// each hands on each schedule, with the first steps, and the walkers as they are behind it.
func (m meeting) each(see func(order []int, walkers []*walker)) {
	fresh := func() []*walker {
		walkers := newWalkers(m.size, true, m.threads)
		plain.Run(walkers, m.ahead, len(m.ahead))
		return walkers
	}
	plain.Schedules(fresh, func(order []int, walkers []*walker) { see(slices.Concat(m.ahead, order), walkers) })
}

// TestEverySchedule is P6.5, and P1, over every schedule of some threads.
func TestEverySchedule(t *testing.T) {
	for i, m := range meetings() {
		runs := 0
		m.each(func(order []int, walkers []*walker) {
			runs++
			want, got := traceOf(walkers), stack.Play(m.size, true, m.threads, order, 999)
			if want.Order = order; !same(got, want) {
				t.Fatalf("%d: %v\n%+v\n%+v", i, order, got, want)
			}
			checkNothingLost(t, m.threads, got, nil)
			if !asSomeOrder(m.size, walkers) {
				t.Fatalf("%d: %v: no order of the operations gives %+v", i, order, got.Answers)
			}
		})
		if runs < 8 {
			t.Error(i, "only", runs)
		}
	}
}

// TestEveryStep is P6.5's first part behind each step of many schedules, and what it says of a Push that answers false.
func TestEveryStep(t *testing.T) {
	c, refused := dice(4), 0
	for range 400 {
		size, threads, schedule := c.between(1, 3), c.threads(3, 4), c.schedule(0, 2, 12)
		for most := 0; ; most++ {
			run := stack.Play(size, true, threads, schedule, most)
			_, walkers := modelPlay(size, true, threads, schedule, most)
			checkNothingLost(t, threads, run, held(walkers))
			if !run.Stuck {
				refused += checkRefused(t, size, threads, run, walkers)
				break
			}
		}
	}
	if refused == 0 {
		t.Error("no Push has answered false")
	}
}

// checkRefused holds each Push that has answered false against there having been no free node at one of its steps.
func checkRefused(t *testing.T, size int, threads [][]api.Op, run api.Trace, walkers []*walker) int {
	t.Helper()
	refused := 0
	for _, w := range walkers {
		for i, a := range w.answers {
			if w.ops[i].Kind != opPush || a.OK {
				continue
			}
			refused++
			found := false
			for most := w.spans[i].first; most <= w.spans[i].last; most++ {
				found = found || stack.Play(size, true, threads, run.Order, most).State[2] == -1
			}
			if !found {
				t.Fatal("there were free nodes", size, threads, run)
			}
		}
	}
	return refused
}

func checkNothingLost(t *testing.T, threads [][]api.Op, run api.Trace, held []int64) {
	t.Helper()
	if in, out := inAndOut(threads, run, held); !slices.Equal(in, out) {
		t.Fatalf("%v: pushed %v, popped, left and held %v", threads, in, out)
	}
}

// inAndOut is what was pushed; and what was popped, is in the stack, or is held.
func inAndOut(threads [][]api.Op, run api.Trace, held []int64) (in, out []int64) {
	out = slices.Concat(run.State[4:], held)
	for n, list := range run.Answers {
		for i, a := range list {
			switch o := threads[n][i]; {
			case !a.OK:
			case o.Kind == opPush:
				in = append(in, o.A)
			case o.Kind == opPop:
				out = append(out, a.N)
			}
		}
	}
	slices.Sort(in)
	slices.Sort(out)
	return in, out
}

// TestAsSomeOrder is P6.5 over many schedules of more threads; without tags there are runs that lose something, or are no stack's.
func TestAsSomeOrder(t *testing.T) {
	c, lost, wrong := dice(5), map[bool]int{}, map[bool]int{}
	for range 10000 {
		size, threads, schedule := c.between(1, 3), c.threads(4, 6), c.schedule(0, 3, 16)
		for _, tagged := range []bool{true, false} {
			want, walkers := modelPlay(size, tagged, threads, schedule, 9999)
			if got := stack.Play(size, tagged, threads, schedule, 9999); !same(got, want) {
				t.Fatalf("%d %v %v\n%+v\n%+v", size, tagged, threads, got, want)
			}
			if in, out := inAndOut(threads, want, nil); !slices.Equal(in, out) {
				lost[tagged]++
			}
			if !asSomeOrder(size, walkers) {
				wrong[tagged]++
			}
		}
	}
	if lost[true] != 0 || wrong[true] != 0 || lost[false] == 0 || wrong[false] == 0 {
		t.Error(lost, wrong)
	}
}

// done is an operation that has ended.
type done struct {
	op     api.Op
	answer api.Answer
	span   span
}

// asSomeOrder tells whether there is an order in which a stack of that size answers what the walkers have, with each operation between its first and its last step.
func asSomeOrder(size int, walkers []*walker) bool {
	var lists [][]done
	for _, w := range walkers {
		var list []done
		for i, a := range w.answers {
			// A Push that answers false is judged by the free nodes alone.
			if o := w.ops[i]; w.spans[i].first >= 0 && (o.Kind != opPush || a.OK) {
				list = append(list, done{o, a, w.spans[i]})
			}
		}
		lists = append(lists, list)
	}
	return place(size, lists, nil)
}

// place finds an operation that may be the next one, and so on.
func place(size int, lists [][]done, values []int64) bool {
	left, first := 0, 1<<60
	for _, list := range lists {
		if left += len(list); len(list) > 0 {
			first = min(first, list[0].span.last)
		}
	}
	if left == 0 {
		return true
	}
	for n, list := range lists {
		if len(list) == 0 || list[0].span.first > first {
			continue
		}
		if after, ok := list[0].on(size, values); ok {
			rest := slices.Clone(lists)
			rest[n] = list[1:]
			if place(size, rest, after) {
				return true
			}
		}
	}
	return false
}

// on does the operation on a stack's values, the top behind; false if it answers something else.
func (d done) on(size int, values []int64) ([]int64, bool) {
	depth := len(values)
	switch d.op.Kind {
	case opPush:
		return append(slices.Clone(values), d.op.A), depth < size
	case opEmpty:
		return values, d.answer.OK == (depth == 0)
	}
	if depth == 0 || !d.answer.OK {
		return values, depth == 0 && !d.answer.OK && d.answer.N == 0
	}
	if d.op.Kind == opPop {
		return values[:depth-1], d.answer.N == values[depth-1]
	}
	return values, d.answer.N == values[depth-1]
}
