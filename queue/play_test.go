package queue_test

import (
	"math"
	"math/rand"
	"slices"
	"testing"

	"carillon/api"
	"carillon/plain"
	"carillon/queue"
)

// The kinds of the chapter's table.
const (
	opPut = 1 + iota
	opTake
	opEmpty
)

func puts(v int64) api.Op                    { return api.Op{Kind: opPut, A: v} }
func op(kind int) api.Op                     { return api.Op{Kind: kind} }
func yes(n int64) api.Answer                 { return api.Answer{OK: true, N: n} }
func ops(all ...api.Op) []api.Op             { return all }
func answers(all ...api.Answer) []api.Answer { return all }

var (
	nothing = api.Answer{}
	takes   = op(opTake)
	empties = op(opEmpty)
)

// checkOne holds a run of one thread, by a schedule and freely, against its answers, steps and state.
func checkOne(t *testing.T, start []int64, ops []api.Op, answers []api.Answer, steps int, state ...int64) {
	t.Helper()
	threads := [][]api.Op{ops}
	want := api.Trace{Answers: [][]api.Answer{answers}, Order: make([]int, steps), State: state}
	if got := queue.Play(start, threads, nil, api.MostSteps); !plain.Same(got, want) {
		t.Errorf("%v %v: %+v, want %+v", start, ops, got, want)
	}
	want.Order = nil
	if got := queue.Free(start, threads); !plain.Same(got, want) {
		t.Errorf("%v %v, free: %+v, want %+v", start, ops, got, want)
	}
}

// TestPlayTable: each kind by one thread; the numbers that a kind doesn't ask for are passed over.
func TestPlayTable(t *testing.T) {
	three := []int64{3, 5, 7}
	checkOne(t, nil, nil, nil, 0, 0)
	checkOne(t, three, nil, nil, 0, 0, 3, 5, 7)
	checkOne(t, three, ops(puts(9), api.Op{Kind: opPut, A: -6, B: 7, C: 8}), answers(yes(0), yes(0)), 8, 0, 3, 5, 7, 9, -6)
	checkOne(t, three, ops(takes, api.Op{Kind: opTake, A: 1, B: 2, C: 3}), answers(yes(3), yes(5)), 8, 0, 7)
	checkOne(t, three, ops(empties, api.Op{Kind: opEmpty, A: 1, B: 2, C: 3}), answers(yes(0), yes(0)), 4, 0, 3, 5, 7)
	checkOne(t, nil, ops(empties, takes, puts(0), empties, takes, empties), answers(yes(1), nothing, yes(0), yes(0), yes(0), yes(1)), 2+3+4+2+4+2, 0)
	checkOne(t, []int64{-1}, ops(takes, takes, puts(math.MinInt64), puts(math.MaxInt64), takes), answers(yes(-1), nothing, yes(0), yes(0), yes(math.MinInt64)), 4+3+4+4+4, 0, math.MaxInt64)
	for _, kind := range []int{0, -1, 4, 5, 99, 1<<32 + 1, math.MinInt, math.MaxInt} {
		checkOne(t, three, ops(api.Op{Kind: kind, A: 1, B: 5, C: 5}), answers(nothing), 0, 0, 3, 5, 7)
	}
}

// TestPlayStart: the values at first, however many, and of whatever number.
func TestPlayStart(t *testing.T) {
	checkOne(t, []int64{math.MaxInt64, math.MinInt64}, ops(takes), answers(yes(math.MaxInt64)), 4, 0, math.MinInt64)
	threads := [][]api.Op{ops(puts(9), takes)}
	for _, n := range []int{0, 1, 2, 64, 65, api.MostSize, api.MostSize + 1, 3 * api.MostSize} {
		start := make([]int64, n, n+5)
		for i := range start {
			start[i] = int64(i*i%7 - 3)
		}
		left := append(slices.Clone(start), 9)
		for _, got := range []api.Trace{queue.Play(start, threads, nil, 8), queue.Free(start, threads)} {
			if got.Stuck || got.State[0] != 0 || !slices.Equal(got.State[1:], left[1:]) || got.Answers[0][1].N != left[0] {
				t.Error(n, len(got.State), got.Answers)
			}
		}
	}
}

// run is a run by a schedule, and what it gives.
type run struct {
	start    []int64
	threads  [][]api.Op
	schedule []int
	want     api.Trace
}

func (r run) check(t *testing.T) {
	t.Helper()
	if got := queue.Play(r.start, r.threads, r.schedule, 99); !plain.Same(got, r.want) {
		t.Errorf("%+v\n%+v", r, got)
	}
}

// TestPlayExamples is the chapter's run, up to some of its places and to its end.
func TestPlayExamples(t *testing.T) {
	threads := [][]api.Op{ops(takes, takes), ops(puts(7))}
	schedule := plain.Turns(1, 3, 0, 8, 1, 1, 0, 4)
	run{[]int64{5}, threads, schedule, api.Trace{Answers: [][]api.Answer{answers(yes(5), yes(7)), answers(yes(0))}, Order: schedule, State: []int64{0}}}.check(t)
	for most, x := range map[int]struct {
		answers [][]api.Answer
		state   []int64
	}{
		2:  {[][]api.Answer{nil, nil}, []int64{0, 5}},
		3:  {[][]api.Answer{nil, nil}, []int64{1, 5, 7}},
		6:  {[][]api.Answer{nil, nil}, []int64{1, 5, 7}},
		7:  {[][]api.Answer{answers(yes(5)), nil}, []int64{1, 7}},
		10: {[][]api.Answer{answers(yes(5)), nil}, []int64{1, 7}},
		11: {[][]api.Answer{answers(yes(5)), nil}, []int64{0, 7}},
		12: {[][]api.Answer{answers(yes(5)), answers(yes(0))}, []int64{0, 7}},
		15: {[][]api.Answer{answers(yes(5)), answers(yes(0))}, []int64{0, 7}},
	} {
		want := api.Trace{Answers: x.answers, Order: schedule[:most], State: x.state, Stuck: true}
		if got := queue.Play([]int64{5}, threads, schedule, most); !plain.Same(got, want) {
			t.Errorf("%d: %+v, want %+v", most, got, want)
		}
	}
}

// TestPlayMeetings: runs of some threads, step by step.
func TestPlayMeetings(t *testing.T) {
	two := [][]api.Op{ops(puts(1)), ops(puts(2))}
	both := [][]api.Answer{answers(yes(0)), answers(yes(0))}
	// Both load the tail and find it the last box: thread 1's S4 fails, and it moves the tail on for thread 0, whose S5 fails.
	run{nil, two, plain.Turns(0, 2, 1, 2, 0, 1, 1, 8, 0, 1), api.Trace{Answers: both, Order: plain.Turns(0, 2, 1, 2, 0, 1, 1, 8, 0, 1), State: []int64{0, 1, 2}}}.check(t)
	// Round and round.
	run{nil, two, nil, api.Trace{Answers: both, Order: []int{0, 1, 0, 1, 0, 1, 0, 1, 1, 1, 1}, State: []int64{0, 1, 2}}}.check(t)
	// One behind the other.
	run{nil, two, plain.Turns(1, 9), api.Trace{Answers: both, Order: plain.Turns(1, 4, 0, 4), State: []int64{0, 2, 1}}}.check(t)
	// Both have loaded the same head: one of them takes the value, the other one finds none.
	run{[]int64{5}, [][]api.Op{ops(takes), ops(takes)}, plain.Turns(0, 3, 1, 4), api.Trace{Answers: [][]api.Answer{answers(nothing), answers(yes(5))},
		Order: plain.Turns(0, 3, 1, 4, 0, 4), State: []int64{0}}}.check(t)
	// What a Put has laid in and not ended is there for all.
	run{nil, [][]api.Op{ops(puts(1)), ops(empties, takes, empties)}, plain.Turns(0, 3, 1, 12), api.Trace{Answers: [][]api.Answer{answers(yes(0)), answers(yes(0), yes(1), yes(1))},
		Order: plain.Turns(0, 3, 1, 12, 0, 1), State: []int64{0}}}.check(t)
	// Numbers of no thread, and of one that has ended, are passed over.
	run{nil, [][]api.Op{ops(empties), nil, ops(op(99), empties)}, []int{7, 2, 1, -1, 2, 2, 0}, api.Trace{Answers: [][]api.Answer{answers(yes(1)), nil, answers(nothing, yes(1))},
		Order: []int{2, 2, 0, 0}, State: []int64{0}}}.check(t)
}

// TestPlayStuck: what stands at a step when the run is stuck has no answer, and hasn't done that step.
func TestPlayStuck(t *testing.T) {
	one := []int64{0, 5}
	for _, x := range []struct {
		op     api.Op
		states [][]int64 // by how many steps are done
	}{
		{puts(9), [][]int64{one, one, one, {1, 5, 9}, {0, 5, 9}}},
		{takes, [][]int64{one, one, one, one, {0}}},
		{empties, [][]int64{one, one, one}},
	} {
		threads, steps := [][]api.Op{ops(op(99), x.op)}, len(x.states)-1
		for most := -2; most < steps; most++ {
			done := max(most, 0)
			want := api.Trace{Answers: [][]api.Answer{{nothing}}, Order: make([]int, done), State: x.states[done], Stuck: true}
			if got := queue.Play([]int64{5}, threads, nil, most); !plain.Same(got, want) {
				t.Errorf("%v %d: %+v", x.op, most, got)
			}
		}
		if got := queue.Play([]int64{5}, threads, nil, steps); got.Stuck || len(got.Answers[0]) != 2 || len(got.Order) != steps || !slices.Equal(got.State, x.states[steps]) {
			t.Errorf("%v: %+v", x.op, got)
		}
	}
	if got := queue.Play(nil, [][]api.Op{ops(puts(1))}, []int{0}, math.MinInt); !plain.Same(got, api.Trace{Answers: [][]api.Answer{nil}, State: []int64{0}, Stuck: true}) {
		t.Error(got)
	}
}

func TestPlayLimits(t *testing.T) {
	many := slices.Repeat([][]api.Op{ops(puts(1))}, api.MostThreads+3)
	for _, got := range []api.Trace{queue.Play(nil, many, []int{66, 64}, api.MostSteps), queue.Free(nil, many)} {
		if len(got.Answers) != api.MostThreads || len(got.State) != 1+api.MostThreads || got.Stuck {
			t.Error(len(got.Answers), got.State)
		}
	}
	long := append(slices.Repeat(ops(empties), api.MostOps-1), puts(1), puts(2))
	for _, got := range []api.Trace{queue.Play(nil, [][]api.Op{long}, nil, api.MostSteps), queue.Free(nil, [][]api.Op{long})} {
		if len(got.Answers[0]) != api.MostOps || !slices.Equal(got.State, []int64{0, 1}) || got.Stuck {
			t.Error(len(got.Answers[0]), got.State)
		}
	}
	busy := slices.Repeat([][]api.Op{slices.Repeat(ops(puts(1), takes), api.MostOps/2)}, 5)
	if got := queue.Play(nil, busy, nil, math.MaxInt); !got.Stuck || len(got.Order) != api.MostSteps {
		t.Error(got.Stuck, len(got.Order))
	}
	for _, got := range []api.Trace{queue.Play([]int64{9, 4}, nil, []int{0}, 9), queue.Free([]int64{9, 4}, nil)} {
		if !plain.Same(got, api.Trace{State: []int64{0, 9, 4}}) {
			t.Error(got)
		}
	}
}

// TestPlayMemory: what is handed in stays as it is, its spare room too, and no answer shares it.
func TestPlayMemory(t *testing.T) {
	room, schedule := []int64{70, 6, 77, 78}, []int{1, 0, 9, 9}
	threads := [][]api.Op{ops(empties, takes), ops(puts(4), op(99), takes), ops(takes)}
	for _, play := range []func() api.Trace{
		func() api.Trace { return queue.Play(room[:2], threads[1:2], schedule[:2], 99) },
		func() api.Trace { return queue.Free(room[:2], threads[1:2]) },
	} {
		first := play()
		whole := first.State[:cap(first.State)]
		for i := range whole {
			whole[i] = -9
		}
		clear(first.Answers[0][:cap(first.Answers[0])])
		if again := play(); !slices.Equal(again.State, []int64{0, 6, 4}) || again.Answers[0][2].N != 70 {
			t.Errorf("%+v", again)
		}
	}
	if !slices.Equal(room, []int64{70, 6, 77, 78}) || !slices.Equal(schedule, []int{1, 0, 9, 9}) || threads[1][0] != puts(4) || threads[0][0] != empties || threads[2][0] != takes {
		t.Error(room, schedule, threads)
	}
}

// chance makes things by dice.
type chance struct{ *rand.Rand }

func dice(seed int64) chance { return chance{rand.New(rand.NewSource(seed))} }

func (c chance) between(low, high int) int { return low + c.Intn(high-low+1) }

// start is some values below 0, rising.
func (c chance) start(most int) []int64 {
	var all []int64
	for i := range c.between(0, most) {
		all = append(all, int64(i-most))
	}
	return all
}

// threads put numbers of which no two are the same, and which rise, so that each take tells which put it was.
func (c chance) threads(threads, most int) [][]api.Op {
	all := make([][]api.Op, threads)
	v := int64(0)
	for i := range all {
		for range c.between(0, most) {
			kind := []int{opPut, opPut, opPut, opPut, opTake, opTake, opTake, opTake, opEmpty, 0}[c.Intn(10)]
			v++
			all[i] = append(all[i], api.Op{Kind: kind, A: v})
		}
	}
	return all
}

// schedule lets a thread do some steps at a stretch.
func (c chance) schedule(low, high, length int) []int {
	var schedule []int
	for range c.between(0, length) {
		schedule = append(schedule, plain.Turns(c.between(low, high), []int{1, 1, 1, 2, 2, 3, 4, 7}[c.Intn(8)])...)
	}
	return schedule
}

// TestPlayAsTheModel is P1 for this layer.
func TestPlayAsTheModel(t *testing.T) {
	c := dice(1)
	for try := range 12000 {
		start, threads := c.start(4), c.threads(c.between(1, 4), 6)
		schedule, most := c.schedule(-1, 4, 30), c.between(0, 150)
		want, _ := modelPlay(start, threads, schedule, most)
		if got := queue.Play(start, threads, schedule, most); !plain.Same(got, want) {
			t.Fatalf("%d: %v %v %v %d\n%+v\n%+v", try, start, threads, schedule, most, got, want)
		}
	}
}

// TestAloneEnds is P7.8 and P5: whatever has gone before, a thread that is let step alone ends the operation at which it stands within as many steps as its kind has; and some need all of them.
func TestAloneEnds(t *testing.T) {
	c, bounds := dice(2), []int{opPut: 9, opTake: 11, opEmpty: 2}
	needed := make([]int, len(bounds))
	for range 20000 {
		start, threads := c.start(1), c.threads(4, 4)
		before := queue.Play(start, threads, c.schedule(0, 3, 20), c.between(0, 40))
		alone := c.Intn(4)
		ended := len(before.Answers[alone])
		if ended == len(threads[alone]) {
			continue
		}
		play := func(schedule []int, most int) api.Trace { return queue.Play(start, threads, schedule, most) }
		kind := threads[alone][ended].Kind
		steps := plain.StepsAlone(play, before, alone, bounds[kind])
		if steps == 0 {
			t.Fatal("not ended", start, threads, before, alone)
		}
		needed[kind] = max(needed[kind], steps)
	}
	if !slices.Equal(needed, bounds) {
		t.Error(needed)
	}
}

// TestFreeIsSomeSchedule is P2 for this layer: what free threads answer and leave is among what all schedules give.
func TestFreeIsSomeSchedule(t *testing.T) {
	for i, m := range meetings() {
		if len(m.ahead) > 0 {
			continue
		}
		can := map[string]bool{}
		m.each(func(_ []int, walkers []*walker) { can[plain.Outcome(traceOf(walkers))] = true })
		if len(can) < 2 {
			t.Error(i, "all schedules give the same")
		}
		for range 500 {
			if got := queue.Free(m.start, m.threads); !can[plain.Outcome(got)] || len(got.Order) != 0 {
				t.Fatalf("%d: no schedule gives %+v", i, got)
			}
		}
	}
}

// TestFreeThreads is P7.7 of free threads: each has all its answers, nothing is lost or double, and all comes in order.
func TestFreeThreads(t *testing.T) {
	c := dice(3)
	for range 60 {
		start, threads := c.start(50), c.threads(16, 400)
		got := queue.Free(start, threads)
		checkKept(t, start, threads, got, nil)
		if len(got.Order) != 0 || got.Stuck || got.State[0] != 0 {
			t.Fatal(got.Order, got.Stuck, got.State[0])
		}
		for n, list := range got.Answers {
			if len(list) != len(threads[n]) {
				t.Fatal(n, len(list))
			}
			for i, a := range list {
				kind := threads[n][i].Kind
				// A take may have its number, an Empty 0 or 1, and no other one has any.
				bad := kind == 0 && a.OK || kind == opPut && !a.OK || kind == opEmpty && !a.OK || a.N != 0 && kind != opTake && !(kind == opEmpty && a.N == 1) || !a.OK && a.N != 0
				if bad || len(a.List) != 0 {
					t.Fatal(kind, a)
				}
			}
		}
	}
}
