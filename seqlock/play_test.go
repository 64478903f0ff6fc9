package seqlock_test

import (
	"math"
	"math/rand"
	"slices"
	"testing"

	"carillon/api"
	"carillon/plain"
	"carillon/seqlock"
)

// The kinds of the chapter's table.
const (
	opWrite = 1 + iota
	opAdd
	opRead
	opRaw
	opNewer
)

func writes(tries, first, by int64) api.Op   { return api.Op{Kind: opWrite, A: tries, B: first, C: by} }
func adds(tries, first, by int64) api.Op     { return api.Op{Kind: opAdd, A: tries, B: first, C: by} }
func reads(tries int64) api.Op               { return api.Op{Kind: opRead, A: tries} }
func newers(version int64) api.Op            { return api.Op{Kind: opNewer, A: version} }
func op(kind int) api.Op                     { return api.Op{Kind: kind} }
func yes(n int64) api.Answer                 { return api.Answer{OK: true, N: n} }
func list(ok bool, all ...int64) api.Answer  { return api.Answer{OK: ok, List: all} }
func ops(all ...api.Op) []api.Op             { return all }
func answers(all ...api.Answer) []api.Answer { return all }

var (
	nothing = api.Answer{}
	raws    = op(opRaw)
)

// checkOne holds a run of one thread, by a schedule and freely, against its answers, steps and state.
func checkOne(t *testing.T, start []int64, ops []api.Op, answers []api.Answer, steps int, state ...int64) {
	t.Helper()
	threads := [][]api.Op{ops}
	want := api.Trace{Answers: [][]api.Answer{answers}, Order: make([]int, steps), State: state}
	if got := seqlock.Play(start, threads, nil, api.MostSteps); !plain.Same(got, want) {
		t.Errorf("%v %v: %+v, want %+v", start, ops, got, want)
	}
	want.Order = nil
	if got := seqlock.Free(start, threads); !plain.Same(got, want) {
		t.Errorf("%v %v, free: %+v, want %+v", start, ops, got, want)
	}
}

// TestPlayTable: each kind by one thread; the numbers that a kind doesn't ask for are passed over.
func TestPlayTable(t *testing.T) {
	three := []int64{3, 5, 7}
	checkOne(t, three, nil, nil, 0, 0, 3, 5, 7)
	checkOne(t, three, ops(writes(1, 10, 1)), answers(yes(0)), 6, 2, 10, 11, 12)
	checkOne(t, three, ops(writes(1, 9, -4), writes(5, -1, 0)), answers(yes(0), yes(0)), 12, 4, -1, -1, -1)
	checkOne(t, three, ops(adds(1, 10, 1)), answers(yes(0)), 6, 2, 13, 16, 19)
	checkOne(t, three, ops(adds(1, 0, 0), adds(3, -3, -2)), answers(yes(0), yes(0)), 12, 4, 0, 0, 0)
	checkOne(t, three, ops(reads(1), api.Op{Kind: opRead, A: 7, B: 2, C: 3}), answers(list(true, 3, 5, 7), list(true, 3, 5, 7)), 10, 0, 3, 5, 7)
	checkOne(t, three, ops(raws, api.Op{Kind: opRaw, A: -1, B: 2, C: 3}), answers(list(true, 3, 5, 7), list(true, 3, 5, 7)), 6, 0, 3, 5, 7)
	checkOne(t, three, ops(newers(-1), newers(0), newers(1), api.Op{Kind: opNewer, A: -2, B: 7, C: 8}), answers(yes(0), nothing, nothing, yes(0)), 4, 0, 3, 5, 7)
	checkOne(t, three, ops(adds(1, 1, 1), newers(1), newers(2), newers(math.MinInt64), newers(math.MaxInt64)),
		answers(yes(0), yes(2), api.Answer{N: 2}, yes(2), api.Answer{N: 2}), 10, 2, 4, 7, 10)
	checkOne(t, three, ops(writes(1, 1, 1), reads(1), adds(1, 1, 0), raws, newers(3)),
		answers(yes(0), list(true, 1, 2, 3), yes(0), list(true, 2, 3, 4), yes(4)), 6+5+6+3+1, 4, 2, 3, 4)
	for _, kind := range []int{0, -1, 6, 7, 99, 1<<32 + 1, math.MinInt, math.MaxInt} {
		checkOne(t, three, ops(api.Op{Kind: kind, A: 1, B: 5, C: 5}), answers(nothing), 0, 0, 3, 5, 7)
	}
}

// TestPlayWraps: the values of an Op wrap around, and so do sums.
func TestPlayWraps(t *testing.T) {
	const least, most = math.MinInt64, math.MaxInt64
	three := []int64{1, 2, 3}
	checkOne(t, three, ops(writes(1, most, 1)), answers(yes(0)), 6, 2, most, least, least+1)
	checkOne(t, three, ops(writes(1, 0, least)), answers(yes(0)), 6, 2, 0, least, 0)
	checkOne(t, three, ops(writes(1, least, -1)), answers(yes(0)), 6, 2, least, most, most-1)
	checkOne(t, three, ops(writes(1, 1, most)), answers(yes(0)), 6, 2, 1, least, -1)
	checkOne(t, three, ops(adds(1, most, most)), answers(yes(0)), 6, 2, least, 0, least)
}

// TestPlayStart: one word a number, of none one, of too many the first ones.
func TestPlayStart(t *testing.T) {
	every := ops(reads(1), writes(1, 4, 2), adds(1, 1, 1), raws)
	for _, start := range [][]int64{nil, {}, {0}} {
		checkOne(t, start, every, answers(list(true, 0), yes(0), yes(0), list(true, 5)), 3+4+4+1, 4, 5)
		checkOne(t, start, nil, nil, 0, 0, 0)
	}
	for n := range 40 {
		words := append(fitted(powers(n), n), -9)[:max(min(n+1, 16), 1)]
		checkOne(t, append(powers(n), -9), every[:1], answers(list(true, words...)), len(words)+2, append([]int64{0}, words...)...)
		after := make([]int64, len(words))
		for i := range after {
			after[i] = int64(5 + 3*i)
		}
		checkOne(t, append(powers(n), -9), every[1:], answers(yes(0), yes(0), list(true, after...)), 3*len(words)+6, append([]int64{4}, after...)...)
	}
}

// run is a run by a schedule, and what it gives.
type run struct {
	start    []int64
	threads  [][]api.Op
	schedule []int
	want     api.Trace
}

func (r run) check(t *testing.T) {
	t.Helper()
	if got := seqlock.Play(r.start, r.threads, r.schedule, 99); !plain.Same(got, r.want) {
		t.Errorf("%+v\n%+v", r, got)
	}
}

// TestPlayExamples is the chapter's runs.
func TestPlayExamples(t *testing.T) {
	two, written := []int64{1, 2}, []int64{2, 10, 11}
	write := ops(writes(1, 10, 1))
	run{two, [][]api.Op{write, ops(reads(1))}, []int{0, 0, 0, 1}, api.Trace{Answers: [][]api.Answer{{yes(0)}, {nothing}},
		Order: []int{0, 0, 0, 1, 0, 0}, State: written}}.check(t)
	run{two, [][]api.Op{write, ops(reads(1))}, []int{1, 1, 0, 0, 0, 0, 0, 1, 1}, api.Trace{Answers: [][]api.Answer{{yes(0)}, {nothing}},
		Order: []int{1, 1, 0, 0, 0, 0, 0, 1, 1}, State: written}}.check(t)
	run{two, [][]api.Op{write, ops(raws)}, []int{1, 0, 0, 0, 0, 0, 1}, api.Trace{Answers: [][]api.Answer{{yes(0)}, {list(true, 1, 11)}},
		Order: []int{1, 0, 0, 0, 0, 0, 1}, State: written}}.check(t)
	run{two, [][]api.Op{write, write}, []int{0, 1, 0, 1}, api.Trace{Answers: [][]api.Answer{{yes(0)}, {nothing}},
		Order: []int{0, 1, 0, 1, 0, 0, 0}, State: written}}.check(t)
}

// TestPlayMeetings: runs of some threads, step by step.
func TestPlayMeetings(t *testing.T) {
	two := []int64{1, 2}
	// A Read's tries: while the version is odd, with a Write between, and then done.
	schedule := plain.Turns(0, 2, 1, 1, 0, 3, 1, 2, 0, 5, 1, 2, 1, 4)
	run{two, [][]api.Op{ops(writes(1, 10, 1), adds(1, 5, 5)), ops(reads(3))}, schedule, api.Trace{Answers: [][]api.Answer{{yes(0), yes(0)}, {list(true, 15, 21)}},
		Order: schedule, State: []int64{4, 15, 21}}}.check(t)
	// The same with a try less.
	run{two, [][]api.Op{ops(writes(1, 10, 1), adds(1, 5, 5)), ops(reads(2))}, schedule, api.Trace{Answers: [][]api.Answer{{yes(0), yes(0)}, {nothing}},
		Order: schedule[:len(schedule)-4], State: []int64{4, 15, 21}}}.check(t)
	// A Write's tries: S2 not done, odd at S1, and then done.
	schedule = plain.Turns(0, 1, 1, 2, 0, 1, 0, 1, 1, 3, 0, 5)
	run{two, [][]api.Op{ops(writes(3, 10, 1)), ops(adds(1, 7, 0))}, schedule, api.Trace{Answers: [][]api.Answer{{yes(0)}, {yes(0)}},
		Order: schedule, State: []int64{4, 10, 11}}}.check(t)
	// The same with a try less.
	run{two, [][]api.Op{ops(writes(2, 10, 1)), ops(adds(1, 7, 0))}, schedule, api.Trace{Answers: [][]api.Answer{{nothing}, {yes(0)}},
		Order: schedule[:len(schedule)-5], State: []int64{2, 8, 9}}}.check(t)
	// Round and round.
	run{two, [][]api.Op{ops(adds(2, 10, 0)), ops(adds(3, 20, 0)), ops(newers(0), newers(0), newers(1))}, nil, api.Trace{
		Answers: [][]api.Answer{{yes(0)}, {nothing}, {nothing, yes(1), api.Answer{N: 1}}},
		Order:   []int{0, 1, 2, 0, 1, 2, 0, 1, 2, 0, 1, 0}, State: []int64{2, 11, 12}}}.check(t)
	// Numbers of no thread, and of one that has ended, are passed over.
	run{two, [][]api.Op{ops(newers(-1)), nil, ops(op(99), raws)}, []int{7, 2, 1, -1, 2, 2, 0}, api.Trace{
		Answers: [][]api.Answer{{yes(0)}, nil, {nothing, list(true, 1, 2)}}, Order: []int{2, 2, 0}, State: []int64{0, 1, 2}}}.check(t)
}

// TestPlayTries: A is taken as an int, and counts within its bounds.
func TestPlayTries(t *testing.T) {
	for asked, counted := range tries() {
		for _, o := range ops(writes(int64(asked), 9, 9), adds(int64(asked), 9, 9), reads(int64(asked))) {
			schedule := plain.Turns(0, 2, 1, counted)
			want := api.Trace{Answers: [][]api.Answer{nil, {nothing}}, Order: schedule, State: []int64{1, 3, 5}, Stuck: true}
			if got := seqlock.Play([]int64{3, 5}, [][]api.Op{ops(writes(1, 7, 0)), ops(o)}, schedule, len(schedule)); !plain.Same(got, want) {
				t.Errorf("%v: %d steps, %+v", o, len(got.Order), got.Answers)
			}
			want = api.Trace{Answers: [][]api.Answer{nil, nil}, Order: schedule[:counted+1], State: []int64{1, 3, 5}, Stuck: true}
			if got := seqlock.Play([]int64{3, 5}, [][]api.Op{ops(writes(1, 7, 0)), ops(o)}, schedule, counted+1); !plain.Same(got, want) {
				t.Errorf("%v: %d steps, %+v", o, len(got.Order), got.Answers)
			}
		}
	}
}

// TestPlayStuck: what stands at a step when the run is stuck has no answer, and hasn't done that step.
func TestPlayStuck(t *testing.T) {
	fresh, odd := []int64{0, 3, 5}, []int64{1, 3, 5}
	for _, x := range []struct {
		op     api.Op
		states [][]int64 // by how many steps are done
	}{
		{writes(3, 9, -1), [][]int64{fresh, fresh, odd, {1, 9, 5}, {1, 9, 8}, {2, 9, 8}}},
		{adds(3, 9, -1), [][]int64{fresh, fresh, odd, {1, 12, 5}, {1, 12, 13}, {2, 12, 13}}},
		{reads(3), slices.Repeat([][]int64{fresh}, 5)},
		{raws, slices.Repeat([][]int64{fresh}, 3)},
		{newers(-1), slices.Repeat([][]int64{fresh}, 2)},
	} {
		threads, steps := [][]api.Op{ops(op(99), x.op)}, len(x.states)-1
		for most := -2; most < steps; most++ {
			done := max(most, 0)
			want := api.Trace{Answers: [][]api.Answer{{nothing}}, Order: make([]int, done), State: x.states[done], Stuck: true}
			if got := seqlock.Play([]int64{3, 5}, threads, nil, most); !plain.Same(got, want) {
				t.Errorf("%v %d: %+v", x.op, most, got)
			}
		}
		if got := seqlock.Play([]int64{3, 5}, threads, nil, steps); got.Stuck || len(got.Answers[0]) != 2 || len(got.Order) != steps || !slices.Equal(got.State, x.states[steps]) {
			t.Errorf("%v: %+v", x.op, got)
		}
	}
	if got := seqlock.Play(nil, [][]api.Op{ops(raws)}, []int{0}, math.MinInt); !plain.Same(got, api.Trace{Answers: [][]api.Answer{nil}, State: []int64{0, 0}, Stuck: true}) {
		t.Error(got)
	}
}

func TestPlayLimits(t *testing.T) {
	many := slices.Repeat([][]api.Op{ops(raws)}, api.MostThreads+3)
	for _, got := range []api.Trace{seqlock.Play([]int64{4}, many, []int{66, 64}, api.MostSteps), seqlock.Free([]int64{4}, many)} {
		if len(got.Answers) != api.MostThreads || !slices.Equal(got.State, []int64{0, 4}) || got.Stuck {
			t.Error(len(got.Answers), got.State)
		}
	}
	long := append(slices.Repeat(ops(newers(0)), api.MostOps-1), adds(1, 1, 0), adds(1, 1, 0))
	for _, got := range []api.Trace{seqlock.Play(nil, [][]api.Op{long}, nil, api.MostSteps), seqlock.Free(nil, [][]api.Op{long})} {
		if len(got.Answers[0]) != api.MostOps || !slices.Equal(got.State, []int64{2, 1}) || got.Stuck {
			t.Error(len(got.Answers[0]), got.State)
		}
	}
	busy := slices.Repeat([][]api.Op{slices.Repeat(ops(reads(1)), api.MostOps)}, 6)
	if got := seqlock.Play(nil, busy, nil, math.MaxInt); !got.Stuck || len(got.Order) != api.MostSteps {
		t.Error(got.Stuck, len(got.Order))
	}
	for _, got := range []api.Trace{seqlock.Play([]int64{9, 4}, nil, []int{0}, 9), seqlock.Free([]int64{9, 4}, nil)} {
		if !plain.Same(got, api.Trace{State: []int64{0, 9, 4}}) {
			t.Error(got)
		}
	}
}

// TestPlayMemory: what is handed in stays as it is, its spare room too, and no answer shares it.
func TestPlayMemory(t *testing.T) {
	room, schedule := []int64{70, 6, 77, 78}, []int{1, 0, 9, 9}
	threads := [][]api.Op{ops(raws, raws), ops(reads(1), raws, adds(1, 1, 1), op(99)), ops(raws)}
	for _, play := range []func() api.Trace{
		func() api.Trace { return seqlock.Play(room[:2], threads[1:2], schedule[:2], 99) },
		func() api.Trace { return seqlock.Free(room[:2], threads[1:2]) },
	} {
		first := play()
		for i, words := range [][]int64{first.Answers[0][0].List, first.Answers[0][1].List, first.State[1:]} {
			if want := []int64{70 + int64(i/2), 6 + 2*int64(i/2)}; !slices.Equal(words, want) {
				t.Error(i, words)
			}
			whole := words[:cap(words)]
			for k := range whole {
				whole[k] = -9
			}
		}
		clear(first.Answers[0][:cap(first.Answers[0])])
		if again := play(); !slices.Equal(again.State, []int64{2, 71, 8}) || !slices.Equal(again.Answers[0][0].List, []int64{70, 6}) {
			t.Errorf("%+v", again)
		}
	}
	if !slices.Equal(room, []int64{70, 6, 77, 78}) || !slices.Equal(schedule, []int{1, 0, 9, 9}) || threads[1][0] != reads(1) || threads[0][0] != raws || threads[2][0] != raws {
		t.Error(room, schedule, threads)
	}
}

// chance makes things by dice.
type chance struct{ *rand.Rand }

func dice(seed int64) chance { return chance{rand.New(rand.NewSource(seed))} }

func (c chance) between(low, high int) int { return low + c.Intn(high-low+1) }

func (c chance) number() int64 {
	if c.Intn(12) == 0 {
		return []int64{math.MinInt64, math.MaxInt64, math.MaxInt64 - 1, 1 << 62}[c.Intn(4)]
	}
	return int64(c.between(-3, 3))
}

func (c chance) numbers(length int) []int64 {
	all := make([]int64, length)
	for i := range all {
		all[i] = c.number()
	}
	return all
}

// threads ask for few tries, so that many of them fail.
func (c chance) threads(threads, most int) [][]api.Op {
	all := make([][]api.Op, threads)
	for i := range all {
		for range c.between(0, most) {
			kind := []int{opWrite, opWrite, opAdd, opAdd, opRead, opRead, opRead, opRaw, opNewer, 0}[c.Intn(10)]
			all[i] = append(all[i], api.Op{Kind: kind, A: int64(c.between(0, 4)), B: c.number(), C: c.number()})
		}
	}
	return all
}

// schedule lets a thread do some steps at a stretch.
func (c chance) schedule(low, high, length int) []int {
	var schedule []int
	for range c.between(0, length) {
		schedule = append(schedule, plain.Turns(c.between(low, high), []int{1, 1, 1, 2, 2, 3, 4, 7}[c.Intn(8)])...)
	}
	return schedule
}

// TestPlayAsTheModel is P1 for this layer.
func TestPlayAsTheModel(t *testing.T) {
	c := dice(1)
	for try := range 12000 {
		start, threads := c.numbers(c.between(0, 4)), c.threads(c.between(1, 4), 6)
		schedule, most := c.schedule(-1, 4, 30), c.between(0, 150)
		want, _ := modelPlay(start, threads, schedule, most)
		if got := seqlock.Play(start, threads, schedule, most); !plain.Same(got, want) {
			t.Fatalf("%d: %v %v %v %d\n%+v\n%+v", try, start, threads, schedule, most, got, want)
		}
	}
}

// boundOf is how many steps an operation over n words needs at most, from wherever it stands, if it is let step alone: a last step of a try that fails, and then one that is done; or all tries while another one has left the version odd.
func boundOf(o api.Op, n int) int {
	tries := int(max(o.A, 1))
	switch o.Kind {
	case opWrite, opAdd:
		return max(n+3+min(tries-1, 1), tries)
	case opRead:
		if tries == 1 {
			return n + 2
		}
		return max(2*n+3, n+tries)
	case opRaw:
		return n
	}
	return 1
}

// TestAloneEnds is P5: whatever has gone before, a thread that is let step alone ends the operation at which it stands within as many steps; and some need all of them.
func TestAloneEnds(t *testing.T) {
	c := dice(2)
	reached, least := map[api.Op]int{}, map[api.Op]int{}
	for range 60000 {
		start, threads := []int64{1, 2}, c.threads(3, 2)
		before := seqlock.Play(start, threads, c.schedule(0, 2, 10), c.between(0, 12))
		alone := c.Intn(3)
		ended := len(before.Answers[alone])
		if ended == len(threads[alone]) {
			continue
		}
		play := func(schedule []int, most int) api.Trace { return seqlock.Play(start, threads, schedule, most) }
		o := threads[alone][ended]
		bound := boundOf(o, len(start))
		steps := plain.StepsAlone(play, before, alone, bound)
		if steps == 0 {
			t.Fatal("not ended", start, threads, before, alone)
		}
		what := api.Op{Kind: o.Kind, A: max(o.A, 1)}
		reached[what], least[what] = max(reached[what], steps), bound
	}
	for what, bound := range least {
		if reached[what] != bound {
			t.Error(what, reached[what], bound)
		}
	}
}

// TestFreeIsSomeSchedule is P2 for this layer: what free threads answer and leave is among what all schedules give.
func TestFreeIsSomeSchedule(t *testing.T) {
	for i, m := range meetings() {
		if len(m.ahead) > 0 {
			continue
		}
		can := map[string]bool{}
		m.each(func(_ []int, walkers []*walker) { can[plain.Outcome(traceOf(walkers))] = true })
		if len(can) < 2 {
			t.Error(i, "all schedules give the same")
		}
		if got, there := plain.Foreign(func() api.Trace { return seqlock.Free(m.start, m.threads) }, 500, can); there {
			t.Fatalf("%d: no schedule gives %+v", i, got)
		}
	}
}

// TestFreeThreads is P8.5 of free threads: each has all its answers, and what adds to the words adds to them alike.
func TestFreeThreads(t *testing.T) {
	c := dice(3)
	for round := range 40 {
		n := []int{1, 2, 3, 16}[round%4]
		threads := make([][]api.Op, 16)
		for i := range threads {
			for range 400 {
				v := int64(c.between(1, 9))
				kind := []int{opAdd, opRead, opRead, opRaw, opNewer, 0}[c.Intn(6)]
				threads[i] = append(threads[i], api.Op{Kind: kind, A: 1 + int64(c.Intn(30)), B: v, C: v})
			}
		}
		got := seqlock.Free(make([]int64, n), threads)
		if len(got.Order) != 0 || got.Stuck || len(got.State) != n+1 {
			t.Fatal(got.Order, got.Stuck, len(got.State))
		}
		checkAdded(t, n, threads, got)
	}
}

// checkAdded holds a run that only adds, to the word i i + 1 times as much as to the first one, against what it answers.
func checkAdded(t *testing.T, n int, threads [][]api.Op, got api.Trace) {
	t.Helper()
	added, version := int64(0), int64(0)
	for i, list := range got.Answers {
		last := int64(0)
		if len(list) != len(threads[i]) {
			t.Fatal(i, len(list))
		}
		for k, a := range list {
			switch o := threads[i][k]; {
			case o.Kind == opAdd && a.OK:
				added, version = added+o.B, version+2
			case o.Kind == opRead && a.OK:
				if len(a.List) != n || a.List[0] < last || !slices.Equal(a.List, times(a.List[0], n)) {
					t.Fatal(a, last)
				}
				last = a.List[0]
			case o.Kind == opRaw && len(a.List) != n, o.Kind != opRaw && len(a.List) != 0, o.Kind == opNewer && a.OK != (a.N > o.A):
				t.Fatal(o, a)
			}
		}
	}
	if want := append([]int64{version}, times(added, n)...); !slices.Equal(got.State, want) {
		t.Error(got.State, want)
	}
}
