package stack_test

import (
	"math"
	"math/rand"
	"slices"
	"testing"

	"carillon/api"
	"carillon/plain"
	"carillon/stack"
)

// The kinds of the chapter's table.
const (
	opPush = 1 + iota
	opPop
	opPeek
	opEmpty
)

func pushes(v int64) api.Op                  { return api.Op{Kind: opPush, A: v} }
func op(kind int) api.Op                     { return api.Op{Kind: kind} }
func yes(n int64) api.Answer                 { return api.Answer{OK: true, N: n} }
func ops(all ...api.Op) []api.Op             { return all }
func answers(all ...api.Answer) []api.Answer { return all }

var (
	nothing = api.Answer{}
	pops    = op(opPop)
	peeks   = op(opPeek)
	empties = op(opEmpty)
)

// turns is a schedule: a thread so many times, and so on.
func turns(pairs ...int) []int {
	var all []int
	for pair := range slices.Chunk(pairs, 2) {
		all = append(all, slices.Repeat(pair[:1], pair[1])...)
	}
	return all
}

// same tells whether two runs are alike; of Free and Play, but for the order.
func same(got, want api.Trace) bool {
	return plain.Outcome(got) == plain.Outcome(want) && slices.Equal(got.Order, want.Order)
}

// checkOne holds a run of one thread, by a schedule with tags and without, and freely, against its answers, steps and state.
func checkOne(t *testing.T, size int, ops []api.Op, answers []api.Answer, steps int, state ...int64) {
	t.Helper()
	threads := [][]api.Op{ops}
	want := api.Trace{Answers: [][]api.Answer{answers}, Order: make([]int, steps), State: state}
	if got := stack.Play(size, true, threads, nil, api.MostSteps); !same(got, want) {
		t.Errorf("%d %v: %+v, want %+v", size, ops, got, want)
	}
	want.Order = nil
	if got := stack.Free(size, threads); !same(got, want) {
		t.Errorf("%d %v, free: %+v, want %+v", size, ops, got, want)
	}
	want.Order, want.State = make([]int, steps), untagged(state)
	if got := stack.Play(size, false, threads, nil, api.MostSteps); !same(got, want) {
		t.Errorf("%d %v, without tags: %+v, want %+v", size, ops, got, want)
	}
}

// TestPlayTable: each kind by one thread; the numbers that a kind doesn't ask for are passed over.
func TestPlayTable(t *testing.T) {
	checkOne(t, 2, nil, nil, 0, -1, 0, 0, 0)
	checkOne(t, 2, ops(pushes(5), api.Op{Kind: opPush, A: -6, B: 7, C: 8}, pushes(9)), answers(yes(0), yes(0), nothing), 15, 1, 2, -1, 2, -6, 5)
	checkOne(t, 2, ops(pushes(5), api.Op{Kind: opPop, A: 1, B: 2, C: 3}, pops), answers(yes(0), yes(5), nothing), 15, -1, 2, 0, 2)
	checkOne(t, 2, ops(peeks, pushes(5), api.Op{Kind: opPeek, A: 1, B: 2, C: 3}, peeks), answers(nothing, yes(0), yes(5), yes(5)), 14, 0, 1, 1, 1, 5)
	checkOne(t, 2, ops(api.Op{Kind: opEmpty, A: 1, B: 2, C: 3}, pushes(0), empties), answers(yes(0), yes(0), nothing), 9, 0, 1, 1, 1, 0)
	checkOne(t, 1, ops(pushes(math.MinInt64), pops, pushes(math.MaxInt64), peeks), answers(yes(0), yes(math.MinInt64), yes(0), yes(math.MaxInt64)), 24, 0, 3, -1, 3, math.MaxInt64)
	for _, kind := range []int{0, -1, 5, 6, 99, 1<<32 + 1, math.MinInt, math.MaxInt} {
		checkOne(t, 2, ops(api.Op{Kind: kind, A: 1, B: 5, C: 5}), answers(nothing), 0, -1, 0, 0, 0)
	}
}

// TestPlaySizes: a size below 1 counts as 1, one above MostSize as MostSize.
func TestPlaySizes(t *testing.T) {
	for _, size := range []int{math.MinInt, -1 << 32, -2, -1, 0, 1} {
		checkOne(t, size, ops(pushes(4), pushes(5)), answers(yes(0), nothing), 8, 0, 1, -1, 1, 4)
	}
	checkOne(t, 3, ops(pushes(4), pushes(5), pushes(6), pushes(7)), answers(yes(0), yes(0), yes(0), nothing), 22, 2, 3, -1, 3, 6, 5, 4)
	for _, size := range []int{api.MostSize, api.MostSize + 1, 1<<32 + 2, math.MaxInt} {
		half := slices.Repeat(ops(pushes(1)), api.MostOps)
		got := stack.Free(size, [][]api.Op{half, ops(pushes(2))})
		if len(got.State) != 4+api.MostSize || got.State[2] != -1 || got.State[1] != api.MostSize || len(got.Answers[0]) != api.MostOps {
			t.Error(size, len(got.State))
		}
	}
}

// run is a run by a schedule, and what it gives.
type run struct {
	size     int
	tagged   bool
	threads  [][]api.Op
	schedule []int
	want     api.Trace
}

func (r run) check(t *testing.T) {
	t.Helper()
	if got := stack.Play(r.size, r.tagged, r.threads, r.schedule, 999); !same(got, r.want) {
		t.Errorf("%+v\n%+v", r, got)
	}
}

// TestPlayExamples are the chapter's runs of three threads, with tags and without.
func TestPlayExamples(t *testing.T) {
	threads := [][]api.Op{ops(pops), ops(pushes(8), pushes(7), pops, pops, pushes(4)), ops(pushes(9))}
	schedule := turns(1, 14, 0, 2, 1, 14, 2, 3, 1, 7, 0, 5, 2, 4)
	told := [][]api.Answer{answers(yes(4)), answers(yes(0), yes(0), yes(7), yes(8), yes(0)), answers(yes(0))}
	run{2, false, threads, schedule, api.Trace{Answers: told, Order: schedule, State: []int64{0, 0, 1, 0, 9, 9}}}.check(t)
	// With tags thread 0 has begun again: its S5 to S7 are left behind the schedule's end.
	order := slices.Concat(schedule, turns(0, 3))
	run{2, true, threads, schedule, api.Trace{Answers: told, Order: order, State: []int64{0, 7, 1, 7, 9}}}.check(t)
	run{2, true, [][]api.Op{ops(pushes(5), pushes(6), pushes(7), pops)}, nil, api.Trace{
		Answers: [][]api.Answer{answers(yes(0), yes(0), nothing, yes(6))}, Order: make([]int, 22), State: []int64{0, 3, 1, 3, 5}}}.check(t)
}

// TestPlayMeetings: runs of two threads, step by step.
func TestPlayMeetings(t *testing.T) {
	two := [][]api.Op{ops(pushes(1)), ops(pushes(2))}
	// Both load the free head; thread 1's S3 fails, and later thread 1's S7.
	run{2, true, two, turns(0, 1, 1, 1, 0, 1, 1, 1, 0, 1, 1, 1), api.Trace{Answers: [][]api.Answer{answers(yes(0)), answers(yes(0))},
		Order: []int{0, 1, 0, 1, 0, 1, 0, 1, 0, 1, 0, 1, 0, 1, 1, 1, 1}, State: []int64{1, 2, -1, 2, 2, 1}}}.check(t)
	// One behind the other.
	run{2, true, two, turns(1, 9), api.Trace{Answers: [][]api.Answer{answers(yes(0)), answers(yes(0))},
		Order: turns(1, 7, 0, 7), State: []int64{1, 2, -1, 2, 1, 2}}}.check(t)
	// While thread 0 holds the only node, no node is free, and the stack is empty.
	run{1, true, [][]api.Op{ops(pushes(1)), ops(pushes(2), pops, empties)}, turns(0, 3, 1, 9), api.Trace{Answers: [][]api.Answer{answers(yes(0)), answers(nothing, nothing, yes(0))},
		Order: turns(0, 3, 1, 3, 0, 4), State: []int64{0, 1, -1, 1, 1}}}.check(t)
	// Numbers of no thread, and of one that has ended, are passed over.
	run{2, true, [][]api.Op{ops(empties), nil, ops(op(99), empties)}, []int{7, 2, 1, -1, 2, 0}, api.Trace{Answers: [][]api.Answer{answers(yes(0)), nil, answers(nothing, yes(0))},
		Order: []int{2, 0}, State: []int64{-1, 0, 0, 0}}}.check(t)
}

// TestPlayStuck: what stands at a step when the run is stuck has no answer, and hasn't done that step.
func TestPlayStuck(t *testing.T) {
	one := []int64{0, 1, 1, 1, 5}
	for _, x := range []struct {
		op     api.Op
		states [][]int64 // by how many steps are done
	}{
		{pushes(9), [][]int64{one, one, one, {0, 1, 2, 2, 5}, {0, 1, 2, 2, 5}, {0, 1, 2, 2, 5}, {0, 1, 2, 2, 5}, {1, 2, 2, 2, 9, 5}}},
		{pops, [][]int64{one, one, one, {-1, 2, 1, 1}, {-1, 2, 1, 1}, {-1, 2, 1, 1}, {-1, 2, 1, 1}, {-1, 2, 0, 2}}},
		{peeks, slices.Repeat([][]int64{one}, 4)},
		{empties, slices.Repeat([][]int64{one}, 2)},
	} {
		threads, steps := [][]api.Op{ops(pushes(5), op(99), x.op)}, len(x.states)-1
		for most := range steps {
			want := api.Trace{Answers: [][]api.Answer{answers(yes(0), nothing)}, Order: make([]int, 7+most), State: x.states[most], Stuck: true}
			if got := stack.Play(3, true, threads, nil, 7+most); !same(got, want) {
				t.Errorf("%v %d: %+v", x.op, most, got)
			}
		}
		if got := stack.Play(3, true, threads, nil, 7+steps); got.Stuck || len(got.Answers[0]) != 3 || len(got.Order) != 7+steps || !slices.Equal(got.State, x.states[steps]) {
			t.Errorf("%v: %+v", x.op, got)
		}
	}
	for _, most := range []int{math.MinInt, -1, 0} {
		if got := stack.Play(1, true, [][]api.Op{ops(pushes(1))}, []int{0}, most); !same(got, api.Trace{Answers: [][]api.Answer{nil}, State: []int64{-1, 0, 0, 0}, Stuck: true}) {
			t.Error(most, got)
		}
	}
}

func TestPlayLimits(t *testing.T) {
	many := slices.Repeat([][]api.Op{ops(pushes(1))}, api.MostThreads+3)
	for _, got := range []api.Trace{stack.Play(99, true, many, []int{66, 64}, api.MostSteps), stack.Free(99, many)} {
		if len(got.Answers) != api.MostThreads || len(got.State) != 4+api.MostThreads || got.Stuck {
			t.Error(len(got.Answers), got.State)
		}
	}
	long := append(slices.Repeat(ops(empties), api.MostOps-1), pushes(1), pushes(2))
	for _, got := range []api.Trace{stack.Play(9, true, [][]api.Op{long}, nil, api.MostSteps), stack.Free(9, [][]api.Op{long})} {
		if len(got.Answers[0]) != api.MostOps || !slices.Equal(got.State, []int64{0, 1, 1, 1, 1}) || got.Stuck {
			t.Error(len(got.Answers[0]), got.State)
		}
	}
	busy := slices.Repeat([][]api.Op{slices.Repeat(ops(pushes(1), pops), api.MostOps/2)}, 3)
	if got := stack.Play(9, true, busy, nil, math.MaxInt); !got.Stuck || len(got.Order) != api.MostSteps {
		t.Error(got.Stuck, len(got.Order))
	}
	for _, got := range []api.Trace{stack.Play(9, true, nil, []int{0}, 9), stack.Free(9, nil)} {
		if !same(got, api.Trace{State: []int64{-1, 0, 0, 0}}) {
			t.Error(got)
		}
	}
}

// TestPlayMemory: what is handed in stays as it is, its spare room too, and no answer shares it.
func TestPlayMemory(t *testing.T) {
	schedule := []int{1, 0, 9, 9}
	threads := [][]api.Op{ops(peeks, pops), ops(pushes(6), op(99)), ops(pops)}
	for _, play := range []func() api.Trace{
		func() api.Trace { return stack.Play(2, true, threads[1:2], schedule[:2], 99) },
		func() api.Trace { return stack.Free(2, threads[1:2]) },
	} {
		first := play()
		whole := first.State[:cap(first.State)]
		for i := range whole {
			whole[i] = -9
		}
		clear(first.Answers[0][:cap(first.Answers[0])])
		if again := play(); !slices.Equal(again.State, []int64{0, 1, 1, 1, 6}) || !again.Answers[0][0].OK {
			t.Errorf("%+v", again)
		}
	}
	if !slices.Equal(schedule, []int{1, 0, 9, 9}) || threads[1][0] != pushes(6) || threads[0][0] != peeks || threads[2][0] != pops {
		t.Error(schedule, threads)
	}
}

// chance makes things by dice.
type chance struct{ *rand.Rand }

func dice(seed int64) chance { return chance{rand.New(rand.NewSource(seed))} }

func (c chance) between(low, high int) int { return low + c.Intn(high-low+1) }

// threads push numbers of which no two are the same, so that each pop tells which push it was.
func (c chance) threads(threads, most int) [][]api.Op {
	all := make([][]api.Op, threads)
	v := int64(0)
	for i := range all {
		for range c.between(0, most) {
			kind := []int{opPush, opPush, opPush, opPush, opPop, opPop, opPop, opPeek, opEmpty, 0}[c.Intn(10)]
			v++
			all[i] = append(all[i], api.Op{Kind: kind, A: v})
		}
	}
	return all
}

// schedule lets a thread do some steps at a stretch: else the heads never look the same again.
func (c chance) schedule(low, high, length int) []int {
	var schedule []int
	for range c.between(0, length) {
		schedule = append(schedule, turns(c.between(low, high), []int{1, 2, 2, 3, 7, 7, 14}[c.Intn(7)])...)
	}
	return schedule
}

// TestPlayAsTheModel is P1 for this layer, with tags and without.
func TestPlayAsTheModel(t *testing.T) {
	c := dice(1)
	for try := range 12000 {
		size, tagged, threads := c.between(0, 4), try%2 == 0, c.threads(c.between(1, 4), 6)
		schedule, most := c.schedule(-1, 4, 20), c.between(0, 300)
		want, _ := modelPlay(size, tagged, threads, schedule, most)
		if got := stack.Play(size, tagged, threads, schedule, most); !same(got, want) {
			t.Fatalf("%d: %d %v %v %v %d\n%+v\n%+v", try, size, tagged, threads, schedule, most, got, want)
		}
	}
}

// TestAloneEnds is P6.5's last part and P5: whatever has gone before, a thread that is let step alone ends the operation at which it stands within as many steps as its kind has; and some need all of them.
func TestAloneEnds(t *testing.T) {
	c, bounds := dice(2), []int{opPush: 9, opPop: 9, opPeek: 4, opEmpty: 1}
	needed := make([]int, len(bounds))
	for range 20000 {
		size, threads := c.between(1, 4), c.threads(4, 3)
		before := stack.Play(size, true, threads, c.schedule(0, 3, 8), c.between(0, 50))
		alone := c.Intn(4)
		ended := len(before.Answers[alone])
		if ended == len(threads[alone]) {
			continue
		}
		kind := threads[alone][ended].Kind
		for steps := 1; ; steps++ {
			schedule := append(slices.Clone(before.Order), turns(alone, steps)...)
			if len(stack.Play(size, true, threads, schedule, len(schedule)).Answers[alone]) > ended {
				needed[kind] = max(needed[kind], steps)
				break
			}
			if steps == bounds[kind] {
				t.Fatal("not ended", size, threads, before, alone)
			}
		}
	}
	if !slices.Equal(needed, bounds) {
		t.Error(needed)
	}
}

// TestFreeIsSomeSchedule is P2 for this layer: what free threads answer and leave is among what all schedules give.
func TestFreeIsSomeSchedule(t *testing.T) {
	for i, m := range meetings() {
		if len(m.ahead) > 0 {
			continue
		}
		can := map[string]bool{}
		m.each(func(_ []int, walkers []*walker) { can[plain.Outcome(traceOf(walkers))] = true })
		if len(can) < 2 {
			t.Error(i, "all schedules give the same")
		}
		for range 500 {
			if got := stack.Free(m.size, m.threads); !can[plain.Outcome(got)] || len(got.Order) != 0 {
				t.Fatalf("%d: no schedule gives %+v", i, got)
			}
		}
	}
}

// TestFreeThreads: many threads over stacks of few nodes or many: each has all its answers, and nothing is lost.
func TestFreeThreads(t *testing.T) {
	c := dice(3)
	for round := range 60 {
		size, threads := []int{0, 1, 2, 3, 50, 9999}[round%6], c.threads(16, 400)
		got := stack.Free(size, threads)
		checkNothingLost(t, threads, got, nil)
		if len(got.Order) != 0 || got.Stuck {
			t.Fatal(got.Order, got.Stuck)
		}
		for n, list := range got.Answers {
			if len(list) != len(threads[n]) {
				t.Fatal(n, len(list))
			}
			for i, a := range list {
				kind := threads[n][i].Kind
				told := kind == opPop || kind == opPeek
				if !told && a.N != 0 || told && a.OK != (a.N > 0) || len(a.List) != 0 || kind == 0 && a.OK {
					t.Fatal(kind, a)
				}
			}
		}
	}
}
