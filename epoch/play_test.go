package epoch_test

import (
	"math"
	"math/rand"
	"slices"
	"testing"

	"carillon/api"
	"carillon/epoch"
	"carillon/plain"
)

// The kinds of the chapter's table.
const (
	opEnter = 1 + iota
	opLeave
	opRetire
	opAdvance
	opCollect
)

func op(kind int) api.Op                     { return api.Op{Kind: kind} }
func retires(thing int64) api.Op             { return api.Op{Kind: opRetire, A: thing} }
func yes(n int64) api.Answer                 { return api.Answer{OK: true, N: n} }
func listed(all ...int64) api.Answer         { return api.Answer{OK: true, List: all} }
func ops(all ...api.Op) []api.Op             { return all }
func answers(all ...api.Answer) []api.Answer { return all }

var (
	nothing  = api.Answer{}
	enters   = op(opEnter)
	leaves   = op(opLeave)
	advances = op(opAdvance)
	collects = op(opCollect)
)

// checkOne holds a run of one thread, by a schedule and freely, against its answers, steps and state.
func checkOne(t *testing.T, start []int64, ops []api.Op, answers []api.Answer, steps int, state ...int64) {
	t.Helper()
	threads := [][]api.Op{ops}
	want := api.Trace{Answers: [][]api.Answer{answers}, Order: make([]int, steps), State: state}
	if got := epoch.Play(start, threads, nil, api.MostSteps); !plain.Same(got, want) {
		t.Errorf("%v %v: %+v, want %+v", start, ops, got, want)
	}
	want.Order = nil
	if got := epoch.Free(start, threads); !plain.Same(got, want) {
		t.Errorf("%v %v, free: %+v, want %+v", start, ops, got, want)
	}
}

// TestPlayTable: each kind by one thread; the numbers that a kind doesn't ask for are passed over.
func TestPlayTable(t *testing.T) {
	five := []int64{5}
	full := func(kind int) api.Op { return api.Op{Kind: kind, A: 7, B: 8, C: 9} }
	checkOne(t, five, nil, nil, 0, 5, 0)
	checkOne(t, five, ops(enters), answers(yes(5)), 2, 5, 6)
	checkOne(t, five, ops(full(opEnter), enters, full(opEnter)), answers(yes(5), nothing, nothing), 2, 5, 6)
	checkOne(t, five, ops(leaves, full(opLeave)), answers(nothing, nothing), 0, 5, 0)
	checkOne(t, five, ops(enters, full(opLeave), leaves, enters), answers(yes(5), yes(0), nothing, yes(5)), 5, 5, 6)
	checkOne(t, five, ops(retires(1), full(opRetire), retires(-1)), answers(yes(5), yes(5), yes(5)), 3, 5, 0)
	checkOne(t, five, ops(advances, full(opAdvance)), answers(yes(1), yes(1)), 6, 7, 0)
	checkOne(t, five, ops(enters, advances, advances, full(opAdvance), leaves, advances), answers(yes(5), yes(1), yes(0), yes(0), yes(0), yes(1)), 13, 7, 0)
	checkOne(t, five, ops(collects, full(opCollect)), answers(listed(), listed()), 2, 5, 0)
	checkOne(t, five, ops(retires(3), retires(2), advances, collects, retires(1), advances, full(opCollect), collects, advances, collects),
		answers(yes(5), yes(5), yes(1), listed(), yes(6), yes(1), listed(3, 2), listed(), yes(1), listed(1)), 3+9+4, 8, 0)
	for _, kind := range []int{0, -1, 6, 7, 99, 1<<32 + 1, math.MinInt, math.MaxInt} {
		checkOne(t, five, ops(full(kind)), answers(nothing), 0, 5, 0)
	}
}

// TestPlayStart: the first number is the epoch, within its bounds; the others are passed over.
func TestPlayStart(t *testing.T) {
	const most = api.MostSequence
	for _, x := range []struct {
		start []int64
		now   int64
	}{
		{nil, 0}, {[]int64{}, 0}, {[]int64{0}, 0}, {[]int64{-1}, 0}, {[]int64{math.MinInt64, 5}, 0}, {[]int64{1, 7, 8}, 1},
		{[]int64{1<<31 - 1}, 1<<31 - 1}, {[]int64{1 << 32}, 1 << 32}, {[]int64{most - 1}, most - 1}, {[]int64{most}, most},
		{[]int64{most + 1}, most}, {[]int64{math.MaxInt64, 1}, most},
	} {
		checkOne(t, x.start, nil, nil, 0, x.now, 0)
		checkOne(t, x.start, ops(enters, advances, retires(9), advances, leaves, advances, enters, advances, collects, leaves, advances, collects),
			answers(yes(x.now), yes(1), yes(x.now+1), yes(0), yes(0), yes(1), yes(x.now+2), yes(1), listed(9), yes(0), yes(1), listed()), 2+3+1+2+1+3+2+3+1+1+3+1, x.now+4, 0)
	}
	for _, got := range []api.Trace{epoch.Play([]int64{7}, nil, []int{0}, 9), epoch.Free([]int64{7}, nil)} {
		if !plain.Same(got, api.Trace{State: []int64{7}}) {
			t.Error(got)
		}
	}
}

// run is a run by a schedule, and what it gives.
type run struct {
	start    int64
	threads  [][]api.Op
	schedule []int
	want     api.Trace
}

func (r run) check(t *testing.T) {
	t.Helper()
	if got := epoch.Play([]int64{r.start}, r.threads, r.schedule, 99); !plain.Same(got, r.want) {
		t.Errorf("%+v\n%+v", r, got)
	}
}

// TestPlayExample is the chapter's run.
func TestPlayExample(t *testing.T) {
	threads := [][]api.Op{ops(enters), ops(advances, advances)}
	for _, schedule := range [][]int{{0, 1, 1, 1, 1}, {0, 1, 1, 1, 1, 0, 1, 1}} {
		run{0, threads, schedule, api.Trace{Answers: [][]api.Answer{{yes(0)}, {yes(1), yes(0)}},
			Order: []int{0, 1, 1, 1, 1, 0, 1, 1}, State: []int64{1, 1, 0}}}.check(t)
	}
}

// TestPlayMeetings: runs of some threads, step by step.
func TestPlayMeetings(t *testing.T) {
	// Who entered ahead of the Retire holds the thing; who enters behind it, in the next epoch, does not.
	schedule := plain.Turns(0, 2, 1, 6, 0, 1, 2, 2, 1, 6)
	run{4, [][]api.Op{ops(enters, leaves), ops(retires(7), advances, advances, collects), ops(enters)}, schedule, api.Trace{
		Answers: [][]api.Answer{{yes(4), yes(0)}, {yes(4), yes(1), yes(1), listed(7)}, {yes(5)}},
		Order:   schedule, State: []int64{6, 0, 0, 6}}}.check(t)
	// The same, but it hasn't left.
	run{4, [][]api.Op{ops(enters), ops(retires(7), advances, advances, collects), ops(enters)}, schedule, api.Trace{
		Answers: [][]api.Answer{{yes(4)}, {yes(4), yes(1), yes(0), listed()}, {yes(5)}},
		Order:   plain.Turns(0, 2, 1, 6, 2, 2, 1, 3), State: []int64{5, 5, 0, 6}}}.check(t)
	// An Enter whose epoch has gone on twice by its S2 holds it there.
	schedule = plain.Turns(0, 1, 1, 8, 0, 1, 1, 2)
	run{0, [][]api.Op{ops(enters), ops(advances, advances, advances)}, schedule, api.Trace{
		Answers: [][]api.Answer{{yes(0)}, {yes(1), yes(1), yes(0)}}, Order: schedule, State: []int64{2, 1, 0}}}.check(t)
	// Of two who move the epoch on from the same one, one does.
	schedule = plain.Turns(0, 3, 1, 4, 0, 1)
	run{0, [][]api.Op{ops(advances), ops(advances)}, schedule, api.Trace{
		Answers: [][]api.Answer{{yes(0)}, {yes(1)}}, Order: schedule, State: []int64{1, 0, 0}}}.check(t)
	// Each gets its own things.
	schedule = plain.Turns(0, 1, 1, 1, 2, 10, 1, 1, 0, 1)
	run{0, [][]api.Op{ops(retires(5), collects), ops(retires(6), collects), ops(advances, advances, collects)}, schedule, api.Trace{
		Answers: [][]api.Answer{{yes(0), listed(5)}, {yes(0), listed(6)}, {yes(1), yes(1), listed()}},
		Order:   append(schedule, 2), State: []int64{2, 0, 0, 0}}}.check(t)
	// Round and round.
	run{0, [][]api.Op{ops(enters, leaves), ops(advances, advances), ops(retires(1), collects, collects)}, nil, api.Trace{
		Answers: [][]api.Answer{{yes(0), yes(0)}, {yes(1), yes(1)}, {yes(0), listed(), listed()}},
		Order:   []int{0, 1, 2, 0, 1, 2, 0, 1, 2, 1, 1, 1, 1, 1, 1, 1}, State: []int64{2, 0, 0, 0}}}.check(t)
	// Numbers of no thread, and of one that has ended, are passed over.
	run{2, [][]api.Op{ops(retires(1)), ops(leaves), ops(op(99), enters)}, []int{7, 2, 1, -1, 2, 2, 0}, api.Trace{
		Answers: [][]api.Answer{{yes(2)}, {nothing}, {nothing, yes(2)}}, Order: []int{2, 2, 0}, State: []int64{2, 0, 0, 3}}}.check(t)
}

// TestPlayStuck: what stands at a step when the run is stuck has no answer, and hasn't done that step.
func TestPlayStuck(t *testing.T) {
	out, in := []int64{4, 0, 0}, []int64{4, 5, 0}
	for _, x := range []struct {
		ahead  []api.Op
		op     api.Op
		states [][]int64 // by how many steps are done behind those ahead
	}{
		{nil, enters, [][]int64{out, out, in}},
		{ops(enters), leaves, [][]int64{in, out}},
		{nil, retires(3), [][]int64{out, out}},
		{nil, advances, [][]int64{out, out, out, out, {5, 0, 0}}},
		{ops(enters), advances, [][]int64{in, in, in, in, {5, 5, 0}}},
		{nil, collects, [][]int64{out, out}},
	} {
		threads, before, steps := [][]api.Op{append(x.ahead, op(99), x.op), nil}, 2*len(x.ahead), len(x.states)-1
		told := append(slices.Repeat(answers(yes(4)), len(x.ahead)), nothing)
		for most := range steps {
			want := api.Trace{Answers: [][]api.Answer{told, nil}, Order: make([]int, before+most), State: x.states[most], Stuck: true}
			if got := epoch.Play([]int64{4}, threads, nil, before+most); !plain.Same(got, want) {
				t.Errorf("%v %d: %+v", x.op, most, got)
			}
		}
		if got := epoch.Play([]int64{4}, threads, nil, before+steps); got.Stuck || len(got.Answers[0]) != len(told)+1 || len(got.Order) != before+steps || !slices.Equal(got.State, x.states[steps]) {
			t.Errorf("%v: %+v", x.op, got)
		}
	}
	for _, most := range []int{math.MinInt, -1, 0} {
		if got := epoch.Play(nil, [][]api.Op{ops(leaves, enters)}, []int{0}, most); !plain.Same(got, api.Trace{Answers: [][]api.Answer{{nothing}}, State: []int64{0, 0}, Stuck: true}) {
			t.Error(got)
		}
	}
}

// TestPlayLimits: the threads that count are members, each of its own number, and the operations that count are done.
func TestPlayLimits(t *testing.T) {
	for _, n := range []int{1, 2, 63, 64, 65, 70} {
		many, state := slices.Repeat([][]api.Op{ops(enters)}, n), []int64{3}
		for range min(n, api.MostThreads) {
			state = append(state, 4)
		}
		many[n-1] = ops(enters, op(0))
		for _, got := range []api.Trace{epoch.Play([]int64{3}, many, []int{66, 64}, api.MostSteps), epoch.Free([]int64{3}, many)} {
			if len(got.Answers) != min(n, api.MostThreads) || !slices.Equal(got.State, state) || got.Stuck {
				t.Error(n, len(got.Answers), got.State)
			}
		}
	}
	for n := range 5 {
		threads, state := make([][]api.Op, 5), []int64{3, 0, 0, 0, 0, 0}
		threads[n], state[1+n] = ops(enters), 4
		if got := epoch.Play([]int64{3}, threads, nil, 9); !slices.Equal(got.State, state) {
			t.Error(n, got.State)
		}
	}
	long := append(slices.Repeat(ops(leaves), api.MostOps-1), enters, leaves)
	for _, got := range []api.Trace{epoch.Play(nil, [][]api.Op{long}, nil, api.MostSteps), epoch.Free(nil, [][]api.Op{long})} {
		if len(got.Answers[0]) != api.MostOps || !slices.Equal(got.State, []int64{0, 1}) || got.Stuck {
			t.Error(len(got.Answers[0]), got.State)
		}
	}
	busy := slices.Repeat([][]api.Op{slices.Repeat(ops(advances), api.MostOps)}, 5)
	if got := epoch.Play(nil, busy, nil, math.MaxInt); !got.Stuck || len(got.Order) != api.MostSteps {
		t.Error(got.Stuck, len(got.Order))
	}
}

// TestPlayMemory: what is handed in stays as it is, its spare room too, and no answer shares memory with another one.
func TestPlayMemory(t *testing.T) {
	start, schedule := []int64{4, 8, 9}, []int{1, 0, 9, 9}
	all := ops(retires(1), retires(2), advances, retires(3), advances, collects, advances, collects, op(99), enters)
	threads := [][]api.Op{ops(enters, enters), slices.Clone(all), ops(enters)}
	threads[1] = threads[1][:9]
	for _, play := range []func() api.Trace{
		func() api.Trace { return epoch.Play(start[:1], threads[1:2], schedule[:2], 99) },
		func() api.Trace { return epoch.Free(start[:1], threads[1:2]) },
	} {
		for range 2 {
			got := play()
			lists := [][]int64{got.Answers[0][5].List, got.Answers[0][7].List, got.State}
			for i, want := range [][]int64{{1, 2}, {3}, {7, 0}} {
				if !slices.Equal(lists[i], want) {
					t.Error(i, lists[i])
				}
				scribble(lists[i])
			}
			clear(got.Answers[0][:cap(got.Answers[0])])
		}
	}
	if !slices.Equal(start, []int64{4, 8, 9}) || !slices.Equal(schedule, []int{1, 0, 9, 9}) || !slices.Equal(threads[1][:10], all) || !slices.Equal(threads[0], ops(enters, enters)) || !slices.Equal(threads[2], ops(enters)) {
		t.Error(start, schedule, threads)
	}
}

// chance makes things by dice.
type chance struct{ *rand.Rand }

func dice(seed int64) chance { return chance{rand.New(rand.NewSource(seed))} }

func (c chance) between(low, high int) int { return low + c.Intn(high-low+1) }

// threads retire no thing twice, and don't often stay inside for long.
func (c chance) threads(threads, most int) [][]api.Op {
	kinds := []int{opEnter, opLeave, opLeave, opRetire, opRetire, opAdvance, opAdvance, opAdvance, opCollect, 0}
	all, thing := make([][]api.Op, threads), int64(0)
	for i := range all {
		for range c.between(0, most) {
			thing++
			o := api.Op{Kind: kinds[c.Intn(len(kinds))], A: thing * int64(1-2*c.Intn(2)), B: int64(c.between(-2, 2)), C: int64(c.between(-2, 2))}
			all[i] = append(all[i], o)
		}
	}
	return all
}

// schedule lets a thread do some steps at a stretch.
func (c chance) schedule(low, high, length int) []int {
	var schedule []int
	for range c.between(0, length) {
		schedule = append(schedule, plain.Turns(c.between(low, high), []int{1, 1, 1, 2, 2, 3, 4, 7}[c.Intn(8)])...)
	}
	return schedule
}

// TestPlayAsTheModel is P1 for this layer.
func TestPlayAsTheModel(t *testing.T) {
	c := dice(1)
	for try := range 12000 {
		start, threads := int64(c.between(0, 4)), c.threads(c.between(1, 4), 12)
		schedule, most := c.schedule(-1, 4, 40), c.between(0, 150)
		want, _ := modelPlay(start, threads, schedule, most)
		if got := epoch.Play([]int64{start}, threads, schedule, most); !plain.Same(got, want) {
			t.Fatalf("%d: %v %v %d\n%+v\n%+v", try, threads, schedule, most, got, want)
		}
	}
}

// TestAloneEnds is P5: whatever has gone before, a thread that is let step alone ends the operation at which it stands within as many steps; and some need all of them.
func TestAloneEnds(t *testing.T) {
	c := dice(2)
	reached := map[int]int{}
	for range 20000 {
		threads := c.threads(3, 4)
		before := epoch.Play(nil, threads, c.schedule(0, 2, 10), c.between(0, 20))
		alone := c.Intn(3)
		ended := len(before.Answers[alone])
		if ended == len(threads[alone]) {
			continue
		}
		kind := threads[alone][ended].Kind
		play := func(schedule []int, most int) api.Trace { return epoch.Play(nil, threads, schedule, most) }
		steps := plain.StepsAlone(play, before, alone, 5)
		if steps == 0 {
			t.Fatal("not ended", threads, before, alone)
		}
		reached[kind] = max(reached[kind], steps)
	}
	for kind, bound := range map[int]int{opEnter: 2, opLeave: 1, opRetire: 1, opAdvance: 5, opCollect: 1} {
		if reached[kind] != bound {
			t.Error(kind, reached[kind], bound)
		}
	}
}

// TestFreeIsSomeSchedule is P2 for this layer: what free threads answer and leave is among what all schedules give.
func TestFreeIsSomeSchedule(t *testing.T) {
	for i, m := range meetings() {
		if len(m.ahead) > 0 {
			continue
		}
		can := map[string]bool{}
		m.each(func(_ []int, walkers []*walker) { can[plain.Outcome(traceOf(walkers))] = true })
		if len(can) < 2 {
			t.Error(i, "all schedules give the same")
		}
		if got, there := plain.Foreign(func() api.Trace { return epoch.Free([]int64{m.start}, m.threads) }, 500, can); there {
			t.Fatalf("%d: no schedule gives %+v", i, got)
		}
	}
}
