package slots_test

import (
	"math"
	"math/rand"
	"slices"
	"testing"

	"carillon/api"
	"carillon/plain"
	"carillon/slots"
)

// The kinds of the chapter's table.
const (
	opPut = 1 + iota
	opGet
	opThere
	opHighest
	opGather
)

func puts(q, v int64) api.Op                 { return api.Op{Kind: opPut, A: q, B: v} }
func gets(q int64) api.Op                    { return api.Op{Kind: opGet, A: q} }
func theres(q int64) api.Op                  { return api.Op{Kind: opThere, A: q} }
func highests(from, to int64) api.Op         { return api.Op{Kind: opHighest, A: from, B: to} }
func gathers(from, most int64) api.Op        { return api.Op{Kind: opGather, A: from, B: most} }
func yes(n int64) api.Answer                 { return api.Answer{OK: true, N: n} }
func refused(err api.Errno) api.Answer       { return api.Answer{N: int64(err)} }
func listed(all ...int64) api.Answer         { return api.Answer{OK: true, List: all} }
func ops(all ...api.Op) []api.Op             { return all }
func answers(all ...api.Answer) []api.Answer { return all }

var nothing = api.Answer{}

// checkOne holds a run of one thread, by a schedule and freely, against its answers, steps and state.
func checkOne(t *testing.T, start []int64, ops []api.Op, answers []api.Answer, steps int, state ...int64) {
	t.Helper()
	threads := [][]api.Op{ops}
	want := api.Trace{Answers: [][]api.Answer{answers}, Order: make([]int, steps), State: state}
	if got := slots.Play(start, threads, nil, api.MostSteps); !plain.Same(got, want) {
		t.Errorf("%v %v: %+v, want %+v", start, ops, got, want)
	}
	want.Order = nil
	if got := slots.Free(start, threads); !plain.Same(got, want) {
		t.Errorf("%v %v, free: %+v, want %+v", start, ops, got, want)
	}
}

// TestPlayTable: each kind by one thread; the numbers that a kind doesn't ask for are passed over.
func TestPlayTable(t *testing.T) {
	two := []int64{2, 7, 8}
	rangeOf, away, gone := refused(api.ErrRange), refused(api.ErrNone), refused(api.ErrLost)
	checkOne(t, two, nil, nil, 0, 0, 0, 7, 8)
	checkOne(t, two, ops(puts(2, 9), api.Op{Kind: opPut, A: 7, B: -4, C: 5}), answers(yes(0), yes(0)), 6, 2, 6, 9, -4)
	checkOne(t, two, ops(puts(-1, 9), puts(end, 9), puts(end-1, 9)), answers(rangeOf, rangeOf, yes(0)), 3, 0, end-2, 7, 9)
	checkOne(t, two, ops(gets(0), gets(1), gets(2), api.Op{Kind: opGet, A: 1, B: 5, C: 6}), answers(yes(7), yes(8), away, yes(8)), 10, 0, 0, 7, 8)
	checkOne(t, two, ops(puts(3, 0), gets(1), gets(3), gets(-1), gets(end)), answers(yes(0), gone, yes(0), rangeOf, rangeOf), 7, 0, 2, 7, 0)
	checkOne(t, two, ops(theres(0), theres(2), theres(-1), theres(end), api.Op{Kind: opThere, A: 1, B: 5, C: 6}), answers(yes(0), nothing, nothing, nothing, yes(0)), 3, 0, 0, 7, 8)
	checkOne(t, two, ops(highests(0, 9), highests(1, 1), highests(2, 9), highests(1, 0), highests(-4, 9), highests(math.MinInt64, 9), highests(end, end), api.Op{Kind: opHighest, C: 6}),
		answers(yes(1), yes(1), yes(1), yes(0), yes(-5), yes(math.MinInt64), yes(end-1), yes(0)), 2+1+1+1, 0, 0, 7, 8)
	checkOne(t, two, ops(gathers(0, 9), gathers(0, 1), gathers(1, 9), gathers(2, 9), gathers(2, 0), gathers(2, math.MinInt64), gathers(-1, 9), gathers(end, 0), api.Op{Kind: opGather, A: 1, B: math.MaxInt64, C: 6}),
		answers(listed(7, 8), listed(7), listed(8), away, listed(), listed(), rangeOf, rangeOf, listed(8)), 6+3+4+1+4, 0, 0, 7, 8)
	checkOne(t, two, ops(puts(3, 5), gathers(1, 9), gathers(0, 9), gathers(3, 9)), answers(yes(0), gone, listed(7), listed(5)), 3+1+4+4, 0, 2, 7, 5)
	for _, kind := range []int{0, -1, 6, 7, 99, 1<<32 + 1, math.MinInt, math.MaxInt} {
		checkOne(t, two, ops(api.Op{Kind: kind, A: 1, B: 5, C: 5}), answers(nothing), 0, 0, 0, 7, 8)
	}
}

// TestPlayStart: the size that can be, and what is put ahead of the run, also of several laps.
func TestPlayStart(t *testing.T) {
	for size := int64(1); size <= 64; size *= 2 {
		for n := range 3*size + 2 {
			start := []int64{size}
			for q := range n {
				start = append(start, valueOf(q))
			}
			checkOne(t, start, ops(highests(max(n-size, 0), end), theres(n)), answers(yes(n-1), nothing), int(min(n, size))+1+btoi(n < size), newShared(start).state()...)
		}
	}
	checkOne(t, []int64{2, 5, 6, 7}, ops(gathers(1, 9)), answers(listed(6, 7)), 6, 2, 0, 7, 6)
	checkOne(t, []int64{1, math.MinInt64, math.MaxInt64}, ops(gets(0), gets(1)), answers(refused(api.ErrLost), yes(math.MaxInt64)), 4, 2, math.MaxInt64)
	great := []int64{api.MostSize}
	for q := range int64(api.MostSize + 3) {
		great = append(great, -q)
	}
	many := [][]api.Op{ops(highests(3, end), gets(2))}
	for _, got := range []api.Trace{slots.Play(great, many, nil, api.MostSteps), slots.Free(great, many)} {
		if got.Answers[0][0].N != api.MostSize+2 || got.Answers[0][1].OK || !slices.Equal(got.State, newShared(great).state()) {
			t.Error(got.Answers)
		}
	}
}

// btoi is 1 for true.
func btoi(yes bool) int {
	if yes {
		return 1
	}
	return 0
}

// TestPlayNoRing: where there is no size, or one that can't be, all operations answer zero.
func TestPlayNoRing(t *testing.T) {
	every := ops(puts(0, 5), gets(0), theres(0), highests(0, 9), gathers(0, 9), gathers(0, 0), puts(-1, 5), gets(end), theres(-1), highests(-4, 9), highests(math.MinInt64, 0), gathers(-1, 9), api.Op{Kind: 6}, api.Op{})
	for _, start := range [][]int64{
		nil, {}, {0}, {-1}, {-2, 5, 6}, {3, 5, 6}, {6}, {65535}, {65537}, {1 << 17, 5}, {1 << 31}, {1 << 32}, {1<<32 + 1, 7}, {1<<32 + 2}, {1 << 62},
		{math.MaxInt64}, {math.MaxInt64 - 1}, {math.MinInt64, 5}, {math.MinInt64 + 1}, {math.MinInt64 + 2},
	} {
		checkOne(t, start, every, make([]api.Answer, len(every)), 0)
		want := api.Trace{Answers: [][]api.Answer{make([]api.Answer, 3), nil, {nothing}}}
		threads := [][]api.Op{every[:3], nil, every[3:4]}
		if got := slots.Play(start, threads, []int{0, 2, 1}, 0); !plain.Same(got, want) {
			t.Error(start, got)
		}
		if got := slots.Free(start, threads); !plain.Same(got, want) {
			t.Error(start, got)
		}
	}
}

// run is a run by a schedule, and what it gives.
type run struct {
	start    []int64
	threads  [][]api.Op
	schedule []int
	want     api.Trace
}

func (r run) check(t *testing.T) {
	t.Helper()
	if got := slots.Play(r.start, r.threads, r.schedule, 99); !plain.Same(got, r.want) {
		t.Errorf("%+v\n%+v", r, got)
	}
}

// TestPlayExample is the chapter's run.
func TestPlayExample(t *testing.T) {
	threads, schedule := [][]api.Op{ops(gets(0)), ops(puts(2, 9))}, []int{0, 1, 1, 0, 0, 1}
	run{[]int64{2, 7}, threads, schedule, api.Trace{Answers: [][]api.Answer{{refused(api.ErrLost)}, {yes(0)}}, Order: schedule, State: []int64{2, -2, 9, 0}}}.check(t)
	// Had the Get ended ahead of the Put's first step, or had its last look been ahead of it.
	for _, schedule := range [][]int{{0, 0, 0, 1, 1, 1}, {0, 0, 0}} {
		run{[]int64{2, 7}, threads, schedule, api.Trace{Answers: [][]api.Answer{{yes(7)}, {yes(0)}}, Order: []int{0, 0, 0, 1, 1, 1}, State: []int64{2, -2, 9, 0}}}.check(t)
	}
}

// TestPlayMeetings: runs of some threads, step by step.
func TestPlayMeetings(t *testing.T) {
	// A Gather takes what is laid ahead of each of its Gets, and ends where one is lost.
	schedule := plain.Turns(1, 3, 0, 3, 1, 4, 0, 1, 1, 1)
	run{[]int64{4, 5, 6, 7}, [][]api.Op{ops(puts(3, 8), puts(6, 9)), ops(gathers(0, 9))}, schedule, api.Trace{
		Answers: [][]api.Answer{{yes(0), yes(0)}, {listed(5, 6)}},
		Order:   append(slices.Clone(schedule), 0, 1, 0), State: []int64{0, 0, 2, 0, 5, 6, 9, 8}}}.check(t)
	// What is lost behind its Get was taken by then.
	schedule = plain.Turns(1, 3, 0, 3, 1, 6, 0, 2, 1, 3, 0, 1)
	run{[]int64{4, 5, 6, 7}, [][]api.Op{ops(puts(3, 8), puts(4, 9)), ops(gathers(0, 9))}, schedule, api.Trace{
		Answers: [][]api.Answer{{yes(0), yes(0)}, {listed(5, 6, 7, 8)}},
		Order:   schedule, State: []int64{2, 0, 0, 0, 9, 6, 7, 8}}}.check(t)
	// Highest sees some that are laid behind its first step.
	schedule = plain.Turns(1, 1, 0, 3, 1, 1, 0, 2, 1, 1, 0, 1)
	run{[]int64{4, 5}, [][]api.Op{ops(puts(1, 8), puts(2, 9)), ops(highests(0, 9))}, schedule, api.Trace{
		Answers: [][]api.Answer{{yes(0), yes(0)}, {yes(1)}},
		Order:   schedule, State: []int64{0, 0, 0, -2, 5, 8, 9, 0}}}.check(t)
	// Two Puts into one slot at one time: as their steps stand.
	schedule = []int{0, 1, 1, 0, 0, 2, 1, 2}
	run{[]int64{1}, [][]api.Op{ops(puts(1, 8)), ops(puts(2, 9)), ops(gets(1), gets(2))}, schedule, api.Trace{
		Answers: [][]api.Answer{{yes(0)}, {yes(0)}, {refused(api.ErrLost), yes(8)}},
		Order:   append(slices.Clone(schedule), 2, 2, 2, 2), State: []int64{4, 8}}}.check(t)
	// Numbers of no thread, and of one that has ended, are passed over.
	run{[]int64{2, 5}, [][]api.Op{ops(theres(0)), nil, ops(api.Op{Kind: 99}, gets(0), gets(-1))}, []int{7, 2, 1, -1, 2, 2, 2, 0}, api.Trace{
		Answers: [][]api.Answer{{yes(0)}, nil, {nothing, yes(5), refused(api.ErrRange)}}, Order: []int{2, 2, 2, 0}, State: []int64{0, -2, 5, 0}}}.check(t)
}

// TestPlayStuck: what stands at a step when the run is stuck has no answer, and hasn't done that step.
func TestPlayStuck(t *testing.T) {
	fresh := []int64{0, 0, 7, 8}
	for _, x := range []struct {
		op     api.Op
		states [][]int64 // by how many steps are done
	}{
		{puts(2, 9), [][]int64{fresh, {1, 0, 7, 8}, {1, 0, 9, 8}, {2, 0, 9, 8}}},
		{gets(1), slices.Repeat([][]int64{fresh}, 4)},
		{gets(2), slices.Repeat([][]int64{fresh}, 2)},
		{theres(1), slices.Repeat([][]int64{fresh}, 2)},
		{highests(0, 9), slices.Repeat([][]int64{fresh}, 3)},
		{gathers(0, 9), slices.Repeat([][]int64{fresh}, 7)},
		{gathers(1, 9), slices.Repeat([][]int64{fresh}, 5)},
	} {
		threads, steps := [][]api.Op{ops(api.Op{Kind: 99}, x.op)}, len(x.states)-1
		for most := -2; most < steps; most++ {
			done := max(most, 0)
			want := api.Trace{Answers: [][]api.Answer{{nothing}}, Order: make([]int, done), State: x.states[done], Stuck: true}
			if got := slots.Play([]int64{2, 7, 8}, threads, nil, most); !plain.Same(got, want) {
				t.Errorf("%v %d: %+v", x.op, most, got)
			}
		}
		if got := slots.Play([]int64{2, 7, 8}, threads, nil, steps); got.Stuck || len(got.Answers[0]) != 2 || len(got.Order) != steps || !slices.Equal(got.State, x.states[steps]) {
			t.Errorf("%v: %+v", x.op, got)
		}
	}
	for _, most := range []int{math.MinInt, -1, 0} {
		if got := slots.Play([]int64{1}, [][]api.Op{ops(gets(-1), gets(0))}, []int{0}, most); !plain.Same(got, api.Trace{Answers: [][]api.Answer{{refused(api.ErrRange)}}, State: []int64{-2, 0}, Stuck: true}) {
			t.Error(got)
		}
	}
}

func TestPlayLimits(t *testing.T) {
	many, state := make([][]api.Op, api.MostThreads+3), newShared([]int64{128})
	for i := range many {
		many[i] = ops(puts(int64(i), int64(i)+5))
		if i < api.MostThreads {
			state.stamps[i], state.values[i] = 0, int64(i)+5
		}
	}
	for _, got := range []api.Trace{slots.Play([]int64{128}, many, []int{66, 64}, api.MostSteps), slots.Free([]int64{128}, many)} {
		if len(got.Answers) != api.MostThreads || !slices.Equal(got.State, state.state()) || got.Stuck {
			t.Error(len(got.Answers), got.State)
		}
	}
	long := append(slices.Repeat(ops(theres(0)), api.MostOps-1), puts(0, 5), puts(1, 6))
	for _, got := range []api.Trace{slots.Play([]int64{1}, [][]api.Op{long}, nil, api.MostSteps), slots.Free([]int64{1}, [][]api.Op{long})} {
		if len(got.Answers[0]) != api.MostOps || !slices.Equal(got.State, []int64{0, 5}) || got.Stuck {
			t.Error(len(got.Answers[0]), got.State)
		}
	}
	busy := slices.Repeat([][]api.Op{slices.Repeat(ops(puts(0, 1)), api.MostOps)}, 6)
	if got := slots.Play([]int64{1}, busy, nil, math.MaxInt); !got.Stuck || len(got.Order) != api.MostSteps {
		t.Error(got.Stuck, len(got.Order))
	}
	for _, got := range []api.Trace{slots.Play([]int64{2, 4}, nil, []int{0}, 9), slots.Free([]int64{2, 4}, nil)} {
		if !plain.Same(got, api.Trace{State: []int64{0, -2, 4, 0}}) {
			t.Error(got)
		}
	}
}

// TestPlayMemory: what is handed in stays as it is, its spare room too, and no answer shares memory with another one.
func TestPlayMemory(t *testing.T) {
	start, schedule := []int64{4, 5, 6, 77, 78}, []int{1, 0, 9, 9}
	all := ops(gathers(0, 9), gathers(0, 2), puts(2, 7), gathers(1, 9), api.Op{Kind: 99}, gets(0))
	threads := [][]api.Op{ops(gets(0), gets(1)), slices.Clone(all), ops(gets(0))}
	threads[1] = threads[1][:5]
	for _, play := range []func() api.Trace{
		func() api.Trace { return slots.Play(start[:3], threads[1:2], schedule[:2], 99) },
		func() api.Trace { return slots.Free(start[:3], threads[1:2]) },
	} {
		for range 2 {
			got := play()
			lists := [][]int64{got.Answers[0][0].List, got.Answers[0][1].List, got.Answers[0][3].List, got.State}
			for i, want := range [][]int64{{5, 6}, {5, 6}, {6, 7}, {0, 0, 0, -2, 5, 6, 7, 0}} {
				if !slices.Equal(lists[i], want) {
					t.Error(i, lists[i])
				}
				scribble(lists[i])
			}
			clear(got.Answers[0][:cap(got.Answers[0])])
		}
	}
	if !slices.Equal(start, []int64{4, 5, 6, 77, 78}) || !slices.Equal(schedule, []int{1, 0, 9, 9}) || !slices.Equal(threads[1][:6], all) || !slices.Equal(threads[0], ops(gets(0), gets(1))) || !slices.Equal(threads[2], ops(gets(0))) {
		t.Error(start, schedule, threads)
	}
}

// chance makes things by dice.
type chance struct{ *rand.Rand }

func dice(seed int64) chance { return chance{rand.New(rand.NewSource(seed))} }

func (c chance) between(low, high int) int { return low + c.Intn(high-low+1) }

// start is a ring of up to 8 slots with some items; now and then there is none.
func (c chance) start() []int64 {
	start := []int64{[]int64{1, 1, 2, 2, 2, 4, 4, 8, 3}[c.Intn(9)]}
	for q := range c.between(0, 9) {
		start = append(start, valueOf(int64(q)))
	}
	return start
}

func (c chance) sequence() int64 {
	if c.Intn(20) == 0 {
		return []int64{math.MinInt64, -2, -1, end - 2, end - 1, end, math.MaxInt64}[c.Intn(7)]
	}
	return int64(c.between(0, 10))
}

// op is one of any kind; what it puts tells the sequence.
func (c chance) op() api.Op {
	o := api.Op{Kind: []int{opPut, opPut, opGet, opGet, opThere, opHighest, opGather, opGather, 0}[c.Intn(9)], A: c.sequence(), C: int64(c.between(-2, 2))}
	switch o.Kind {
	case opPut:
		o.B = 10*valueOf(o.A) + int64(c.Intn(10))
	case opHighest:
		o.B = c.sequence()
	default:
		o.B = int64(c.between(-1, 9))
	}
	return o
}

func (c chance) threads(threads, most int) [][]api.Op {
	all := make([][]api.Op, threads)
	for i := range all {
		for range c.between(0, most) {
			all[i] = append(all[i], c.op())
		}
	}
	return all
}

// writersAndReaders is a ring of up to 8 slots, with writers, each of whom puts the sequences of slots of its own, in order, and readers who look for what may be there.
func (c chance) writersAndReaders() (start []int64, threads [][]api.Op) {
	size := int64(1) << c.between(0, 3)
	writers := c.Intn(min(int(size), 3)) + 1
	first := int64(c.between(0, int(size)+1))
	start = []int64{size}
	for q := range first {
		start = append(start, valueOf(q))
	}
	threads = make([][]api.Op, writers+c.between(1, 2))
	for q := first; q < first+3*size; q++ {
		w := int(q%size) % writers
		threads[w] = append(threads[w], puts(q, valueOf(q)))
	}
	for i := writers; i < len(threads); i++ {
		for at := int64(0); at < first+3*size; at += int64(c.between(0, 2)) {
			threads[i] = append(threads[i], []api.Op{gets(at), gets(at), theres(at), highests(at, at+int64(c.between(-1, 9))), gathers(at, int64(c.between(0, 9)))}[c.Intn(5)])
		}
	}
	return start, threads
}

// schedule lets a thread do some steps at a stretch.
func (c chance) schedule(low, high, length int) []int {
	var schedule []int
	for range c.between(0, length) {
		schedule = append(schedule, plain.Turns(c.between(low, high), []int{1, 1, 1, 2, 2, 3, 4, 7}[c.Intn(8)])...)
	}
	return schedule
}

// TestPlayAsTheModel is P1 for this layer.
func TestPlayAsTheModel(t *testing.T) {
	c := dice(1)
	for try := range 12000 {
		start, threads := c.start(), c.threads(c.between(1, 4), 8)
		schedule, most := c.schedule(-1, 4, 40), c.between(0, 150)
		want, _ := modelPlay(start, threads, schedule, most)
		if got := slots.Play(start, threads, schedule, most); !plain.Same(got, want) {
			t.Fatalf("%d: %v %v %v %d\n%+v\n%+v", try, start, threads, schedule, most, got, want)
		}
	}
}

// TestAloneEnds is P5: whatever has gone before, a thread that is let step alone ends the operation at which it stands within as many steps; and some need all of them.
func TestAloneEnds(t *testing.T) {
	c := dice(2)
	const size = 4
	start := []int64{size, 1, 2, 3, 4}
	reached := map[int]int{}
	for range 20000 {
		threads := c.threads(3, 3)
		before := slots.Play(start, threads, c.schedule(0, 2, 6), c.between(0, 20))
		alone := c.Intn(3)
		ended := len(before.Answers[alone])
		if ended == len(threads[alone]) {
			continue
		}
		play := func(schedule []int, most int) api.Trace { return slots.Play(start, threads, schedule, most) }
		steps := plain.StepsAlone(play, before, alone, 3*size)
		if steps == 0 {
			t.Fatal("not ended", threads, before, alone)
		}
		kind := threads[alone][ended].Kind
		reached[kind] = max(reached[kind], steps)
	}
	for kind, bound := range map[int]int{opPut: 3, opGet: 3, opThere: 1, opHighest: size, opGather: 3 * size} {
		if reached[kind] != bound {
			t.Error(kind, reached[kind], bound)
		}
	}
}

// TestFreeIsSomeSchedule is P2 for this layer: what free threads answer and leave is among what all schedules give.
func TestFreeIsSomeSchedule(t *testing.T) {
	for i, m := range meetings() {
		if len(m.ahead) > 0 {
			continue
		}
		can := map[string]bool{}
		m.each(func(_ []int, walkers []*walker) { can[plain.Outcome(traceOf(walkers))] = true })
		if len(can) < 2 {
			t.Error(i, "all schedules give the same")
		}
		if got, there := plain.Foreign(func() api.Trace { return slots.Free(m.start, m.threads) }, 500, can); there {
			t.Fatalf("%d: no schedule gives %+v", i, got)
		}
	}
}
