package stripe_test

import (
	"math"
	"math/rand"
	"slices"
	"testing"

	"carillon/api"
	"carillon/plain"
	"carillon/stripe"
)

// The kinds of the chapter's table.
const (
	opAdd = 1 + iota
	opSum
	opTake
	opMove
	opEven
)

func adds(at, v int64) api.Op                { return api.Op{Kind: opAdd, A: at, B: v} }
func moves(from, to, v int64) api.Op         { return api.Op{Kind: opMove, A: from, B: to, C: v} }
func op(kind int) api.Op                     { return api.Op{Kind: kind} }
func yes(n int64) api.Answer                 { return api.Answer{OK: true, N: n} }
func ops(all ...api.Op) []api.Op             { return all }
func answers(all ...api.Answer) []api.Answer { return all }

var nothing = api.Answer{}

// same tells whether two runs are alike; of Free and Play, but for the order.
func same(got, want api.Trace) bool {
	return plain.Outcome(got) == plain.Outcome(want) && slices.Equal(got.Order, want.Order)
}

// checkOne holds a run of one thread, by a schedule and freely, against its answers, steps and state.
func checkOne(t *testing.T, start []int64, ops []api.Op, answers []api.Answer, steps int, state []int64) {
	t.Helper()
	want := api.Trace{Answers: [][]api.Answer{answers}, Order: make([]int, steps), State: state}
	if got := stripe.Play(start, [][]api.Op{ops}, nil, api.MostSteps); !same(got, want) {
		t.Errorf("%v %v: %+v, want %+v", start, ops, got, want)
	}
	want.Order = nil
	if got := stripe.Free(start, [][]api.Op{ops}); !same(got, want) {
		t.Errorf("%v %v, free: %+v, want %+v", start, ops, got, want)
	}
}

// TestPlayTable: each kind by one thread; the numbers that a kind doesn't ask for are passed over.
func TestPlayTable(t *testing.T) {
	three := []int64{3, 5, 7}
	checkOne(t, three, ops(adds(0, 9), adds(4, -6), api.Op{Kind: opAdd, A: -1, B: 1, C: 88}), answers(yes(12), yes(-1), yes(8)), 3, []int64{12, -1, 8})
	checkOne(t, three, ops(op(opSum), api.Op{Kind: opSum, A: 1, B: 2, C: 3}), answers(yes(15), yes(15)), 6, three)
	checkOne(t, three, ops(op(opTake), api.Op{Kind: opTake, A: 1, B: 2, C: 3}), answers(yes(15), yes(0)), 6, []int64{0, 0, 0})
	checkOne(t, three, ops(moves(0, 2, 4), moves(-2, 0, 1), moves(5, -1, 8), moves(0, 1, 0)), answers(yes(0), yes(0), yes(0), yes(0)), 8, []int64{0, 4, 11})
	checkOne(t, three, ops(op(opEven), api.Op{Kind: opEven, A: 1, B: 2, C: 3}), answers(yes(15), yes(15)), 12, three)
	checkOne(t, three, ops(adds(0, 1), op(opSum), moves(0, 1, 4), op(opEven), op(opTake), op(opEven)), answers(yes(4), yes(16), yes(0), yes(16), yes(16), yes(0)), 1+3+2+6+3+6, []int64{0, 0, 0})
	for _, kind := range []int{0, -1, 6, 7, 99, 1<<32 + 1, math.MinInt, math.MaxInt} {
		checkOne(t, three, ops(api.Op{Kind: kind, A: 0, B: 5, C: 5}), answers(nothing), 0, three)
	}
}

// TestPlayStart: one stripe a number, of none one, of too many the first ones.
func TestPlayStart(t *testing.T) {
	all := ops(op(opSum), adds(7, 3), op(opEven), moves(0, 1, 2), op(opTake))
	for _, start := range [][]int64{nil, {}, {0}} {
		checkOne(t, start, all, answers(yes(0), yes(3), yes(3), yes(0), yes(3)), 1+1+2+2+1, []int64{0})
		checkOne(t, start, nil, nil, 0, []int64{0})
	}
	checkOne(t, []int64{-9}, all, answers(yes(-9), yes(-6), yes(-6), yes(0), yes(-6)), 7, []int64{0})
	for n := range 70 {
		start, most := powers(n), min(max(n, 1), api.MostThreads)
		for i := range n {
			start[i] += int64(i)
		}
		state := make([]int64, most)
		copy(state, start)
		sum := total(state)
		checkOne(t, start, ops(op(opSum), op(opEven)), answers(yes(sum), yes(sum)), 3*most, state)
		state[most-1]++
		checkOne(t, start, ops(adds(-1, 1)), answers(yes(state[most-1])), 1, state)
	}
}

// TestPlayAts: a number at which a stripe is asked for is an int, of whatever size.
func TestPlayAts(t *testing.T) {
	for _, n := range []int{1, 2, 3, 5, 64} {
		for _, at := range ats(n) {
			state := powers(n)
			state[place(at, n)] += 9
			checkOne(t, powers(n), ops(adds(int64(at), 9)), answers(yes(state[place(at, n)])), 1, state)
			state[0] -= 9
			checkOne(t, powers(n), ops(moves(0, int64(at), 9)), answers(yes(0)), 2, state)
			state = powers(n)
			state[place(at, n)] -= 9
			state[n-1] += 9
			checkOne(t, powers(n), ops(moves(int64(at), -1, 9)), answers(yes(0)), 2, state)
		}
	}
}

func TestPlayExamples(t *testing.T) {
	two := ops(adds(0, 1), adds(1, 1))
	one := ops(op(opSum))
	for i, x := range []struct {
		start    []int64
		threads  [][]api.Op
		schedule []int
		answers  [][]api.Answer
		order    []int
		state    []int64
	}{
		{[]int64{0, 0}, [][]api.Op{one, two}, []int{0, 1, 1, 0}, [][]api.Answer{{yes(1)}, {yes(1), yes(1)}}, []int{0, 1, 1, 0}, []int64{1, 1}},
		{[]int64{0, 0}, [][]api.Op{ops(op(opEven)), two}, []int{0, 1, 1, 0, 0}, [][]api.Answer{{nothing}, {yes(1), yes(1)}}, []int{0, 1, 1, 0, 0}, []int64{1, 1}},
		{[]int64{0, 0}, [][]api.Op{ops(op(opEven)), two}, []int{1, 0, 0, 0, 0}, [][]api.Answer{{yes(1)}, {yes(1), yes(1)}}, []int{1, 0, 0, 0, 0, 1}, []int64{1, 1}},
		{[]int64{0, 0}, [][]api.Op{ops(op(opEven)), two}, nil, [][]api.Answer{{nothing}, {yes(1), yes(1)}}, []int{0, 1, 0, 1, 0}, []int64{1, 1}},
		{[]int64{4, 6}, [][]api.Op{ops(op(opTake)), ops(op(opTake))}, []int{0, 1, 1, 0}, [][]api.Answer{{yes(4)}, {yes(6)}}, []int{0, 1, 1, 0}, []int64{0, 0}},
		{[]int64{4, 6}, [][]api.Op{ops(moves(0, 1, 3)), ops(op(opTake), op(opSum))}, []int{0, 1, 1, 0}, [][]api.Answer{{yes(0)}, {yes(7), yes(3)}}, []int{0, 1, 1, 0, 1, 1}, []int64{0, 3}},
		{[]int64{4, 6}, [][]api.Op{ops(op(opEven)), ops(moves(0, 1, 3), moves(1, 0, 3))}, []int{0, 0, 1, 1, 1, 1, 0, 0}, [][]api.Answer{{yes(10)}, {yes(0), yes(0)}}, []int{0, 0, 1, 1, 1, 1, 0, 0}, []int64{4, 6}},
		{[]int64{4}, [][]api.Op{one, nil, ops(op(99))}, []int{2, 1, 0}, [][]api.Answer{{yes(4)}, nil, {nothing}}, []int{0}, []int64{4}},
		{[]int64{0, 0}, [][]api.Op{ops(adds(0, 5), adds(3, 7), op(opTake))}, nil, [][]api.Answer{{yes(5), yes(7), yes(12)}}, []int{0, 0, 0, 0}, []int64{0, 0}},
		{[]int64{0, 0}, [][]api.Op{ops(adds(-1, 2))}, nil, [][]api.Answer{{yes(2)}}, []int{0}, []int64{0, 2}},
	} {
		want := api.Trace{Answers: x.answers, Order: x.order, State: x.state}
		if got := stripe.Play(x.start, x.threads, x.schedule, 99); !same(got, want) {
			t.Errorf("%d: %+v, want %+v", i, got, want)
		}
	}
}

// TestPlayStuck: what stands at a step when the run is stuck has no answer, and hasn't done that step.
func TestPlayStuck(t *testing.T) {
	for _, x := range []struct {
		op     api.Op
		states [][]int64 // by how many steps are done
	}{
		{adds(1, 9), [][]int64{{3, 5}, {3, 14}}},
		{op(opSum), [][]int64{{3, 5}, {3, 5}, {3, 5}}},
		{op(opTake), [][]int64{{3, 5}, {0, 5}, {0, 0}}},
		{moves(1, 0, 2), [][]int64{{3, 5}, {3, 3}, {5, 3}}},
		{op(opEven), slices.Repeat([][]int64{{3, 5}}, 5)},
	} {
		threads, steps := [][]api.Op{ops(op(99), x.op)}, len(x.states)-1
		for most := -2; most < steps; most++ {
			done := max(most, 0)
			want := api.Trace{Answers: [][]api.Answer{{nothing}}, Order: make([]int, done), State: x.states[done], Stuck: true}
			if got := stripe.Play([]int64{3, 5}, threads, nil, most); !same(got, want) {
				t.Errorf("%v %d: %+v", x.op, most, got)
			}
		}
		if got := stripe.Play([]int64{3, 5}, threads, nil, steps); got.Stuck || len(got.Answers[0]) != 2 || len(got.Order) != steps || !slices.Equal(got.State, x.states[steps]) {
			t.Errorf("%v: %+v", x.op, got)
		}
	}
}

func TestPlayLimits(t *testing.T) {
	many := slices.Repeat([][]api.Op{ops(adds(0, 1))}, api.MostThreads+3)
	for _, got := range []api.Trace{stripe.Play([]int64{0, 0}, many, []int{66, 64}, api.MostSteps), stripe.Free([]int64{0, 0}, many)} {
		if len(got.Answers) != api.MostThreads || !slices.Equal(got.State, []int64{api.MostThreads, 0}) || got.Stuck {
			t.Error(len(got.Answers), got.State)
		}
	}
	long := slices.Repeat(ops(adds(1, 1)), api.MostOps+2)
	for _, got := range []api.Trace{stripe.Play([]int64{0, 0}, [][]api.Op{long}, nil, api.MostSteps), stripe.Free([]int64{0, 0}, [][]api.Op{long})} {
		if len(got.Answers[0]) != api.MostOps || !slices.Equal(got.State, []int64{0, api.MostOps}) || got.Stuck {
			t.Error(len(got.Answers[0]), got.State)
		}
	}
	for _, got := range []api.Trace{stripe.Play([]int64{9, 4}, nil, []int{0}, 9), stripe.Free([]int64{9, 4}, nil)} {
		if !same(got, api.Trace{State: []int64{9, 4}}) {
			t.Error(got)
		}
	}
}

// TestPlayMemory: what is handed in stays as it is, its spare room too, and no answer shares it.
func TestPlayMemory(t *testing.T) {
	room, schedule := []int64{70, 6, 77, 78}, []int{1, 0, 9, 9}
	threads := [][]api.Op{ops(op(opSum), op(opSum)), ops(adds(0, 1), op(99)), ops(op(opTake))}
	for _, play := range []func() api.Trace{
		func() api.Trace { return stripe.Play(room[:2], threads[1:2], schedule[:2], 99) },
		func() api.Trace { return stripe.Free(room[:2], threads[1:2]) },
	} {
		first := play()
		whole := first.State[:cap(first.State)]
		for i := range whole {
			whole[i] = -1
		}
		clear(first.Answers[0][:cap(first.Answers[0])])
		if again := play(); !slices.Equal(again.State, []int64{71, 6}) || again.Answers[0][0].N != 71 {
			t.Errorf("%+v", again)
		}
	}
	if !slices.Equal(room, []int64{70, 6, 77, 78}) || !slices.Equal(schedule, []int{1, 0, 9, 9}) || threads[1][0] != adds(0, 1) || threads[2][0] != op(opTake) {
		t.Error(room, schedule, threads)
	}
}

// walker is a thread of a plain reading of the chapter: how many steps of its operation it has done, and what those have found.
type walker struct {
	stripes []int64 // all threads' own
	ops     []api.Op
	answers []api.Answer
	done    int
	found   []int64
}

func (w *walker) Ended() bool { return len(w.answers) == len(w.ops) }

func (w *walker) end(a api.Answer) {
	w.answers = append(w.answers, a)
	w.done, w.found = 0, nil
}

// advance passes over the operations that have no step.
func (w *walker) advance() {
	for !w.Ended() && (w.ops[len(w.answers)].Kind < opAdd || w.ops[len(w.answers)].Kind > opEven) {
		w.end(nothing)
	}
}

func (w *walker) Step() {
	o := w.ops[len(w.answers)]
	n := len(w.stripes)
	w.done++
	switch o.Kind {
	case opAdd:
		at := place(int(o.A), n)
		w.stripes[at] += o.B
		w.end(yes(w.stripes[at]))
	case opMove:
		if w.done == 1 {
			w.stripes[place(int(o.A), n)] -= o.C
		} else {
			w.stripes[place(int(o.B), n)] += o.C
			w.end(yes(0))
		}
	default:
		w.look(o.Kind, (w.done-1)%n)
	}
	w.advance()
}

// look is a step of the kinds that go from stripe to stripe.
func (w *walker) look(kind, at int) {
	n := len(w.stripes)
	if w.done > n && w.found[at] != w.stripes[at] {
		w.end(nothing)
		return
	}
	if w.done <= n {
		w.found = append(w.found, w.stripes[at])
	}
	if kind == opTake {
		w.stripes[at] = 0
	}
	if w.done == n && kind != opEven || w.done == 2*n {
		w.end(yes(total(w.found)))
	}
}

// carries is what the walker has taken, and not yet laid or told.
func (w *walker) carries() int64 {
	if w.Ended() {
		return 0
	}
	switch o := w.ops[len(w.answers)]; o.Kind {
	case opTake:
		return total(w.found)
	case opMove:
		return int64(w.done) * o.C
	}
	return 0
}

func newWalkers(start []int64, threads [][]api.Op) []*walker {
	stripes := make([]int64, min(max(len(start), 1), api.MostThreads))
	copy(stripes, start)
	var walkers []*walker
	for _, ops := range threads {
		w := &walker{stripes: stripes, ops: ops}
		w.advance()
		walkers = append(walkers, w)
	}
	return walkers
}

// traceOf is what walkers, one at least, have answered and left.
func traceOf(walkers []*walker) api.Trace {
	run := api.Trace{State: walkers[0].stripes}
	for _, w := range walkers {
		run.Answers = append(run.Answers, w.answers)
	}
	return run
}

func modelPlay(start []int64, threads [][]api.Op, schedule []int, most int) (api.Trace, []*walker) {
	walkers := newWalkers(start, threads)
	order, stuck := plain.Run(walkers, schedule, most)
	run := traceOf(walkers)
	run.Order, run.Stuck = order, stuck
	return run, walkers
}

// chance makes things by dice.
type chance struct{ *rand.Rand }

func dice(seed int64) chance { return chance{rand.New(rand.NewSource(seed))} }

func (c chance) between(low, high int) int { return low + c.Intn(high-low+1) }

func (c chance) number() int64 {
	if c.Intn(12) == 0 {
		return []int64{math.MinInt64, math.MaxInt64, math.MaxInt64 - 1, 1 << 62}[c.Intn(4)]
	}
	return int64(c.between(-3, 3))
}

func (c chance) numbers(length int) []int64 {
	all := make([]int64, length)
	for i := range all {
		all[i] = c.number()
	}
	return all
}

func (c chance) threads(threads, most int) [][]api.Op {
	all := make([][]api.Op, threads)
	for i := range all {
		for range c.between(0, most) {
			all[i] = append(all[i], api.Op{Kind: c.between(0, opEven+1), A: c.number(), B: c.number(), C: c.number()})
		}
	}
	return all
}

func (c chance) schedule(low, high, length int) []int {
	schedule := make([]int, c.between(0, length))
	for i := range schedule {
		schedule[i] = c.between(low, high)
	}
	return schedule
}

// TestPlayAsTheModel is P1 for this layer.
func TestPlayAsTheModel(t *testing.T) {
	c := dice(1)
	for try := range 20000 {
		start, threads := c.numbers(c.between(0, 4)), c.threads(c.between(1, 4), 6)
		schedule, most := c.schedule(-1, 4, 30), c.between(0, 90)
		want, _ := modelPlay(start, threads, schedule, most)
		if got := stripe.Play(start, threads, schedule, most); !same(got, want) {
			t.Fatalf("%d: %v %v %v %d\n%+v\n%+v", try, start, threads, schedule, most, got, want)
		}
	}
}

// meeting is a run whose schedules can all be gone through.
type meeting struct {
	start   []int64
	threads [][]api.Op
}

func meetings() []meeting {
	sum, take, even := op(opSum), op(opTake), op(opEven)
	return []meeting{
		{[]int64{0, 0}, [][]api.Op{ops(sum), ops(adds(0, 1), adds(1, 1))}},
		{[]int64{0, 0}, [][]api.Op{ops(even), ops(adds(0, 1), adds(1, 1))}},
		{[]int64{4, 6}, [][]api.Op{ops(take, sum), ops(take)}},
		{[]int64{1, 2, 3}, [][]api.Op{ops(take), ops(moves(2, 0, 5), adds(1, 7))}},
		{[]int64{5, 7}, [][]api.Op{ops(take), ops(moves(0, 1, 2)), ops(adds(0, -1))}},
		{[]int64{5, 7}, [][]api.Op{ops(even), ops(moves(0, 1, 2), moves(1, 0, 2))}},
		{nil, [][]api.Op{ops(adds(0, 1), take), ops(adds(3, 10), take), ops(adds(-1, 100))}},
		{[]int64{3, 4, 5}, [][]api.Op{ops(even), ops(take), ops(adds(2, 5))}},
	}
}

// owed is what the counter had at first and all that was added, less all that was taken and told.
func owed(m meeting, run api.Trace) int64 {
	n := total(m.start)
	for i, answers := range run.Answers {
		for k, a := range answers {
			switch o := m.threads[i][k]; o.Kind {
			case opAdd:
				n += o.B
			case opTake:
				n -= a.N
			}
		}
	}
	return n
}

// checkOwed holds a run that is stopped behind each of its steps, and behind all, against P5.6: what there is and what is carried is what is owed.
func checkOwed(t *testing.T, m meeting, schedule []int) {
	t.Helper()
	for most := 0; ; most++ {
		run := stripe.Play(m.start, m.threads, schedule, most)
		_, walkers := modelPlay(m.start, m.threads, schedule, most)
		there := total(run.State)
		for _, w := range walkers {
			there += w.carries()
		}
		if there != owed(m, run) {
			t.Fatalf("%v %v: there is %d, and owed %d: %+v", m, schedule, there, owed(m, run), run)
		}
		if !run.Stuck {
			return
		}
	}
}

// TestNothingIsLost is P5.6's second part and P7, over every schedule of some threads, and many schedules of many.
func TestNothingIsLost(t *testing.T) {
	for i, m := range meetings() {
		runs := 0
		plain.Schedules(func() []*walker { return newWalkers(m.start, m.threads) }, func(order []int, _ []*walker) {
			runs++
			checkOwed(t, m, order)
		})
		if runs < 6 {
			t.Error(i, "only", runs)
		}
	}
	c := dice(2)
	for range 300 {
		m := meeting{c.numbers(c.between(1, 4)), c.threads(4, 3)}
		checkOwed(t, m, c.schedule(0, 3, 40))
	}
}

// risings are threads of which the first one looks alone, while the others do nothing but add 0 or more.
func risings(look api.Op) []meeting {
	return []meeting{
		{[]int64{7}, [][]api.Op{ops(look), ops(adds(0, 1), adds(0, 2))}},
		{[]int64{0, 0}, [][]api.Op{ops(look), ops(adds(0, 1), adds(1, 1))}},
		{[]int64{0, 0}, [][]api.Op{ops(look), ops(adds(1, 1), adds(0, 1))}},
		{[]int64{-9, 4}, [][]api.Op{ops(look), ops(adds(1, 0), adds(0, 3)), ops(adds(-1, 5))}},
		{[]int64{1, 2, 3}, [][]api.Op{ops(look), ops(adds(2, 10), adds(0, 20), adds(1, 40))}},
		{[]int64{1, -2, 3}, [][]api.Op{ops(look), ops(adds(0, 10)), ops(adds(1, 20), adds(2, 40))}},
	}
}

// totals is what the total was ahead of each step of a run, and behind the last.
func totals(m meeting, order []int) []int64 {
	var all []int64
	for done := range len(order) + 1 {
		all = append(all, total(stripe.Play(m.start, m.threads, order, done).State))
	}
	return all
}

// steps are where the first thread's steps stand in the order.
func steps(order []int) []int {
	var all []int
	for i, n := range order {
		if n == 0 {
			all = append(all, i)
		}
	}
	return all
}

// TestSumLiesBetween is P5.6's first part, over every schedule; and that neither bound is all that a sum can be.
func TestSumLiesBetween(t *testing.T) {
	seen := map[string]int{}
	for _, m := range risings(op(opSum)) {
		plain.Schedules(func() []*walker { return newWalkers(m.start, m.threads) }, func(order []int, _ []*walker) {
			run, all, mine := stripe.Play(m.start, m.threads, order, 999), totals(m, order), steps(order)
			n, low, high := run.Answers[0][0].N, all[mine[0]], all[mine[len(mine)-1]+1]
			if len(mine) != len(m.start) || n < low || n > high {
				t.Fatal(m, order, n, low, high)
			}
			switch {
			case low == high:
			case n == low:
				seen["low"]++
			case n == high:
				seen["high"]++
			default:
				seen["between"]++
			}
		})
	}
	if len(seen) != 3 {
		t.Error(seen)
	}
}

// TestEvenStood is P5.5's remark: where numbers only rise, a sum that Even tells was the total from behind Sn until S(n+1).
func TestEvenStood(t *testing.T) {
	said := map[bool]int{}
	for _, m := range risings(op(opEven)) {
		n := len(m.start)
		plain.Schedules(func() []*walker { return newWalkers(m.start, m.threads) }, func(order []int, _ []*walker) {
			a := stripe.Play(m.start, m.threads, order, 999).Answers[0][0]
			said[a.OK]++
			if !a.OK {
				return
			}
			all, mine := totals(m, order), steps(order)
			for at := mine[n-1] + 1; at <= mine[n]; at++ {
				if len(mine) != 2*n || all[at] != a.N {
					t.Fatal(m, order, a, all)
				}
			}
		})
	}
	if said[true] == 0 || said[false] == 0 {
		t.Error(said)
	}
}

// TestAloneEnds is P5: whatever has gone before, a thread that is let step alone ends the operation at which it stands within as many steps as its kind has.
func TestAloneEnds(t *testing.T) {
	c := dice(3)
	for range 5000 {
		start, threads := c.numbers(c.between(1, 4)), c.threads(4, 3)
		before := stripe.Play(start, threads, c.schedule(0, 3, 20), c.between(0, 20))
		alone, n := c.Intn(4), len(start)
		ended := len(before.Answers[alone])
		if ended == len(threads[alone]) {
			continue
		}
		bound := []int{opAdd: 1, opSum: n, opTake: n, opMove: 2, opEven: 2 * n}[threads[alone][ended].Kind]
		schedule := append(slices.Clone(before.Order), slices.Repeat([]int{alone}, bound)...)
		if len(stripe.Play(start, threads, schedule, len(schedule)).Answers[alone]) <= ended {
			t.Fatal("not ended", start, threads, before, alone)
		}
	}
}

// TestFreeIsSomeSchedule is P2 for this layer: what free threads answer and leave is among what all schedules give.
func TestFreeIsSomeSchedule(t *testing.T) {
	for i, m := range meetings() {
		can := map[string]bool{}
		plain.Schedules(func() []*walker { return newWalkers(m.start, m.threads) }, func(_ []int, walkers []*walker) {
			can[plain.Outcome(traceOf(walkers))] = true
		})
		if len(can) < 2 {
			t.Error(i, "all schedules give the same")
		}
		for range 1000 {
			if got := stripe.Free(m.start, m.threads); !can[plain.Outcome(got)] || len(got.Order) != 0 {
				t.Fatalf("%d: no schedule gives %+v", i, got)
			}
		}
	}
}

// TestFreeCrowd: many threads over one counter, of few stripes or many: each has all its answers, and nothing is lost.
func TestFreeCrowd(t *testing.T) {
	c := dice(4)
	for round := range 60 {
		m := meeting{c.numbers([]int{0, 1, 2, 3, 63, 64}[round%6]), c.threads(16, 400)}
		run := stripe.Free(m.start, m.threads)
		if total(run.State) != owed(m, run) || len(run.State) != max(len(m.start), 1) || run.Stuck || len(run.Order) != 0 {
			t.Fatal(round, total(run.State), owed(m, run), len(run.State))
		}
		for n, answers := range run.Answers {
			if len(answers) != len(m.threads[n]) {
				t.Fatal(n, len(answers))
			}
			for k, a := range answers {
				kind := m.threads[n][k].Kind
				always := kind >= opAdd && kind < opEven
				if kind != opEven && a.OK != always || !a.OK && a.N != 0 || len(a.List) != 0 {
					t.Fatal(kind, a)
				}
			}
		}
	}
}
