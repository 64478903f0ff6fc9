package gate_test

import (
	"math"
	"math/rand"
	"slices"
	"testing"

	"carillon/api"
	"carillon/gate"
	"carillon/plain"
)

// The kinds of the chapter's table.
const (
	opJoin = 1 + iota
	opLeave
	opSet
	opGet
	opList
	opLeast
	opMay
)

func joins(place, at int64) api.Op           { return api.Op{Kind: opJoin, A: place, B: at} }
func leaves(place int64) api.Op              { return api.Op{Kind: opLeave, A: place} }
func sets(place, at int64) api.Op            { return api.Op{Kind: opSet, A: place, B: at} }
func gets(place int64) api.Op                { return api.Op{Kind: opGet, A: place} }
func leasts(none int64) api.Op               { return api.Op{Kind: opLeast, A: none} }
func mays(q, size int64) api.Op              { return api.Op{Kind: opMay, A: q, B: size} }
func yes(n int64) api.Answer                 { return api.Answer{OK: true, N: n} }
func refused(err api.Errno) api.Answer       { return api.Answer{N: int64(err)} }
func isList(members ...int64) api.Answer     { return api.Answer{OK: true, List: members} }
func isLeast(n, place int64) api.Answer      { return api.Answer{OK: true, N: n, List: numbers(place)} }
func isHeld(place int64) api.Answer          { return api.Answer{N: place} }
func ops(all ...api.Op) []api.Op             { return all }
func answers(all ...api.Answer) []api.Answer { return all }
func numbers(all ...int64) []int64           { return all }

var (
	lists    = api.Op{Kind: opList}
	nothing  = api.Answer{}
	outRange = refused(api.ErrRange)
	isThere  = refused(api.ErrThere)
	isNone   = refused(api.ErrNone)
	mayBe    = yes(-1)
)

// stateOf is a run's State: these members, and these numbers from the place 0 on; of the other places -1.
func stateOf(members []int64, first ...int64) []int64 {
	rest := slices.Repeat(numbers(-1), places-len(first))
	return slices.Concat(numbers(int64(len(members))), members, first, rest)
}

// run is a run by a schedule, and what it gives.
type run struct {
	start    []int64
	threads  [][]api.Op
	schedule []int
	want     api.Trace
}

func (r run) check(t *testing.T) {
	t.Helper()
	if got := gate.Play(r.start, r.threads, r.schedule, 999); !plain.Same(got, r.want) {
		t.Errorf("%+v\n%+v", r, got)
	}
}

// checkLone holds a run of one thread, by a schedule and freely, against its answers, steps and state.
func checkLone(t *testing.T, start []int64, list []api.Op, answers []api.Answer, steps int, state []int64) {
	t.Helper()
	want := api.Trace{Answers: [][]api.Answer{answers}, Order: make([]int, steps), State: state}
	run{start, [][]api.Op{list}, nil, want}.check(t)
	want.Order = nil
	if got := gate.Free(start, [][]api.Op{list}); !plain.Same(got, want) {
		t.Errorf("%v %v, free: %+v, want %+v", start, list, got, want)
	}
}

// TestPlayStart: who has joined ahead of the run, and how many may.
func TestPlayStart(t *testing.T) {
	checkLone(t, nil, ops(lists), answers(isList()), 1, stateOf(nil))
	checkLone(t, numbers(), ops(leasts(5)), answers(isLeast(5, -1)), 1, stateOf(nil))
	checkLone(t, numbers(-1), ops(lists), answers(isList(0)), 1, stateOf(numbers(0)))
	checkLone(t, numbers(7, math.MinInt64, math.MaxInt64), ops(lists, leasts(5)), answers(isList(0, 1, 2), isLeast(math.MinInt64, 1)), 1+4, stateOf(numbers(0, 1, 2), 7, math.MinInt64, math.MaxInt64))
	for _, n := range []int{places - 1, places, places + 1, places + 9} {
		var start, members []int64
		for i := range n {
			start = append(start, int64(100-i))
		}
		for i := range min(n, places) {
			members = append(members, int64(i))
		}
		last := int64(len(members) - 1)
		state := stateOf(members, start[:len(members)]...)
		checkLone(t, start, ops(leasts(5)), answers(isLeast(100-last, last)), 1+len(members), state)
	}
}

// TestPlayJoins: Joins and Leaves of good places and others; the numbers that a kind doesn't ask for are passed over.
func TestPlayJoins(t *testing.T) {
	checkLone(t, nil, ops(joins(3, 10), api.Op{Kind: opJoin, A: 1, B: 7, C: 9}, joins(3, 0), lists, leaves(3), api.Op{Kind: opLeave, A: 3, B: 1, C: 1}, leaves(1), joins(0, 5)),
		answers(yes(0), yes(0), isThere, isList(3, 1), yes(0), isNone, yes(0), yes(0)), 3+3+1+1+2+1+2+3, stateOf(numbers(0), 5, 7, -1, 10))
	checkLone(t, nil, ops(joins(-1, 5), joins(64, 5), joins(math.MinInt64, 5), joins(1<<32, 5), joins(math.MaxInt64, 5), leaves(-1), leaves(64), leaves(math.MinInt64), leaves(math.MaxInt64)),
		slices.Repeat(answers(outRange), 9), 0, stateOf(nil))
	checkLone(t, numbers(4, 3), ops(joins(0, 9), joins(1, math.MinInt64), joins(63, math.MaxInt64), lists),
		answers(isThere, isThere, yes(0), isList(0, 1, 63)), 1+1+3+1, append(stateOf(numbers(0, 1, 63), 4, 3)[:4+63], math.MaxInt64))
}

// TestPlayNumbers: Set and Get, of places of members and others.
func TestPlayNumbers(t *testing.T) {
	checkLone(t, numbers(4), ops(gets(0), api.Op{Kind: opGet, A: 1, B: 7, C: 7}, api.Op{Kind: opSet, A: 1, B: 8, C: 9}, gets(1), sets(0, math.MinInt64), gets(0), sets(2, math.MaxInt64), gets(2)),
		answers(yes(4), yes(-1), yes(0), yes(8), yes(0), yes(math.MinInt64), yes(0), yes(math.MaxInt64)), 8, stateOf(numbers(0), math.MinInt64, 8, math.MaxInt64))
	checkLone(t, numbers(4), ops(gets(-1), gets(64), gets(1<<32), gets(math.MinInt64), sets(-1, 5), sets(64, 5), sets(1<<32, 5), sets(math.MaxInt64, 5)),
		slices.Repeat(answers(outRange), 8), 0, stateOf(numbers(0), 4))
}

// TestPlayLeasts: Least and May.
func TestPlayLeasts(t *testing.T) {
	checkLone(t, numbers(4, 3), ops(leasts(9), mays(8, 4), gets(64), lists, mays(7, 4), mays(4, 0), mays(5, -3), mays(math.MinInt64, math.MaxInt64), mays(math.MaxInt64, 1)),
		answers(isLeast(3, 1), isHeld(1), outRange, isList(0, 1), mayBe, mayBe, isHeld(1), mayBe, isHeld(1)), 3+3+1+5*3, stateOf(numbers(0, 1), 4, 3))
	checkLone(t, numbers(4, 3), ops(leaves(0), leaves(1), leasts(9), api.Op{Kind: opLeast, A: math.MinInt64, B: 5, C: 5}, mays(100, 8), mays(math.MaxInt64, 1)),
		answers(yes(0), yes(0), isLeast(9, -1), isLeast(math.MinInt64, -1), mayBe, mayBe), 2+2+4, stateOf(nil, 4, 3))
	checkLone(t, numbers(4, 4, 4), ops(leasts(9), leaves(0), leasts(9), joins(0, 4), leasts(9), api.Op{Kind: opMay, A: 6, B: 1, C: 9}, sets(1, 5), mays(6, 1)),
		answers(isLeast(4, 0), yes(0), isLeast(4, 1), yes(0), isLeast(4, 1), isHeld(1), yes(0), isHeld(2)), 4+2+3+3+4+4+1+4, stateOf(numbers(1, 2, 0), 4, 5, 4))
}

// TestPlayKinds: what is outside the table.
func TestPlayKinds(t *testing.T) {
	var list []api.Op
	for _, kind := range []int{math.MinInt, -1 << 32, -7, -1, 0, 8, 9, 99, 1<<32 + 1, math.MaxInt} {
		list = append(list, api.Op{Kind: kind, A: 1, B: 5, C: 5}, api.Op{Kind: kind}, api.Op{Kind: kind, A: -1, B: -1})
	}
	checkLone(t, numbers(4), list, make([]api.Answer, len(list)), 0, stateOf(numbers(0), 4))
}

// TestPlayExamples are the chapter's, as runs.
func TestPlayExamples(t *testing.T) {
	schedule := []int{0, 1, 0, 1, 0, 1}
	run{nil, [][]api.Op{ops(joins(0, 5)), ops(joins(1, 6))}, schedule, api.Trace{
		Answers: [][]api.Answer{{yes(0)}, {yes(0)}}, Order: append(schedule, 1, 1, 1), State: stateOf(numbers(0, 1), 5, 6)}}.check(t)
	checkLone(t, nil, ops(leasts(9), mays(100, 8), joins(3, 10), joins(1, 7), leasts(0), mays(15, 8), mays(16, 8), sets(1, 12), leasts(0), joins(3, 0), leaves(3), leaves(3), joins(64, 0)),
		answers(isLeast(9, -1), mayBe, yes(0), yes(0), isLeast(7, 1), mayBe, isHeld(1), yes(0), isLeast(10, 3), isThere, yes(0), isNone, outRange), 2+6+9+1+3+1+2+1, stateOf(numbers(1), -1, 12, -1, 10))
}

// TestPlayMeetings: runs of some threads, step by step.
func TestPlayMeetings(t *testing.T) {
	// Two of one place: who comes later has laid its number.
	schedule := []int{0, 0, 1, 1, 1, 0, 0}
	run{nil, [][]api.Op{ops(joins(0, 5)), ops(joins(0, 6))}, schedule, api.Trace{
		Answers: [][]api.Answer{{isThere}, {yes(0)}}, Order: schedule, State: stateOf(numbers(0), 6)}}.check(t)
	schedule = []int{0, 1, 1, 1, 0, 0, 0}
	run{nil, [][]api.Op{ops(joins(0, 5)), ops(joins(0, 6))}, schedule, api.Trace{
		Answers: [][]api.Answer{{isThere}, {yes(0)}}, Order: schedule, State: stateOf(numbers(0), 5)}}.check(t)
	// Two that leave.
	schedule = []int{0, 1, 0, 1, 1}
	run{numbers(4), [][]api.Op{ops(leaves(0)), ops(leaves(0))}, schedule, api.Trace{
		Answers: [][]api.Answer{{yes(0)}, {isNone}}, Order: schedule, State: stateOf(nil, 4)}}.check(t)
	// The list is as it was, and still another one.
	schedule = []int{0, 0, 1, 1, 1, 1, 1, 0, 0, 0, 0}
	run{numbers(4), [][]api.Op{ops(joins(1, 5)), ops(joins(2, 6), leaves(2))}, schedule, api.Trace{
		Answers: [][]api.Answer{{yes(0)}, {yes(0), yes(0)}}, Order: schedule, State: stateOf(numbers(0, 1), 4, 5, 6)}}.check(t)
	// A Least that had loaded the list ahead.
	schedule = []int{0, 1, 1, 1, 0, 0, 0, 0}
	run{numbers(9), [][]api.Op{ops(leasts(0), leasts(0)), ops(joins(1, 3))}, schedule[:7], api.Trace{
		Answers: [][]api.Answer{{isLeast(9, 0), isLeast(3, 1)}, {yes(0)}}, Order: schedule, State: stateOf(numbers(0, 1), 9, 3)}}.check(t)
	// Numbers of no thread, and of one that has ended, are passed over.
	run{nil, [][]api.Op{ops(joins(0, 5)), ops(lists), ops(api.Op{})}, []int{7, 0, 2, -1, 0, 0, 0, 0, 1}, api.Trace{
		Answers: [][]api.Answer{{yes(0)}, {isList(0)}, {nothing}}, Order: plain.Turns(0, 3, 1, 1), State: stateOf(numbers(0), 5)}}.check(t)
}

// TestPlayStuck: behind each number of steps: what stands at a step has no answer, and hasn't done that step.
func TestPlayStuck(t *testing.T) {
	list := ops(joins(1, 5), sets(1, 6), gets(1), lists, leasts(9), mays(9, 1), leaves(0))
	told := answers(yes(0), yes(0), yes(6), isList(0, 1), isLeast(4, 0), isHeld(0), yes(0))
	states := slices.Concat(
		slices.Repeat([][]int64{stateOf(numbers(0), 4)}, 2),
		[][]int64{stateOf(numbers(0), 4, 5), stateOf(numbers(0, 1), 4, 5)},
		slices.Repeat([][]int64{stateOf(numbers(0, 1), 4, 6)}, 1+1+1+3+3+1),
		[][]int64{stateOf(numbers(1), 4, 6)},
	)
	ends := []int{3, 4, 5, 6, 9, 12, 14}
	for done, state := range states {
		n := 0
		for n < len(ends) && ends[n] <= done {
			n++
		}
		want := api.Trace{Answers: [][]api.Answer{told[:n]}, Order: make([]int, done), State: state, Stuck: done < 14}
		if got := gate.Play(numbers(4), [][]api.Op{list}, nil, done); !plain.Same(got, want) {
			t.Errorf("%d: %+v, want %+v", done, got, want)
		}
	}
	if len(states) != 15 {
		t.Error(len(states))
	}
	for _, most := range []int{math.MinInt, -1, 0} {
		want := api.Trace{Answers: [][]api.Answer{{outRange}, {nothing}}, State: stateOf(numbers(0), 4), Stuck: true}
		if got := gate.Play(numbers(4), [][]api.Op{ops(joins(64, 5), joins(1, 5)), ops(api.Op{}, leaves(0))}, []int{0}, most); !plain.Same(got, want) {
			t.Error(most, got)
		}
	}
}

func TestPlayLimits(t *testing.T) {
	// The threads behind the most of them do nothing.
	var many [][]api.Op
	for i := range int64(api.MostThreads + 2) {
		many = append(many, ops(joins(i%places, i+5)))
	}
	played := gate.Play(nil, many, []int{65, 64, 63, 63, 63}, api.MostSteps)
	for _, got := range []api.Trace{played, gate.Free(nil, many)} {
		if len(got.Answers) != api.MostThreads || got.Stuck || got.State[0] != places || got.State[1+places] != 5 || got.State[1+places+63] != 68 {
			t.Error(len(got.Answers), got.State)
		}
	}
	if played.State[1] != 63 || played.Order[0] != 63 {
		t.Error(played.State[1], played.Order[0])
	}
	long := append(slices.Repeat(ops(joins(64, 0)), api.MostOps-1), joins(1, 5), joins(2, 6))
	for _, got := range []api.Trace{gate.Play(nil, [][]api.Op{long}, nil, api.MostSteps), gate.Free(nil, [][]api.Op{long})} {
		if len(got.Answers[0]) != api.MostOps || !slices.Equal(got.State, stateOf(numbers(1), -1, 5)) || got.Stuck {
			t.Error(len(got.Answers[0]), got.State)
		}
	}
	busy := [][]api.Op{slices.Repeat(ops(leasts(0)), api.MostOps)}
	if got := gate.Play(slices.Repeat(numbers(5), places), busy, nil, math.MaxInt); !got.Stuck || len(got.Order) != api.MostSteps {
		t.Error(got.Stuck, len(got.Order))
	}
	for _, got := range []api.Trace{gate.Play(numbers(5), nil, []int{0}, 9), gate.Free(numbers(5), nil)} {
		if !plain.Same(got, api.Trace{State: stateOf(numbers(0), 5)}) {
			t.Error(got)
		}
	}
}

// TestPlayMemory: what is handed in stays as it is, its spare room too, and no answer shares memory with it or with another one.
func TestPlayMemory(t *testing.T) {
	start, schedule := numbers(4, 3, 77, 78), []int{0, 0, 0, 1, 1, 9, 9}
	kept := [][]api.Op{ops(joins(5, 5), lists, lists, leasts(1)), ops(lists, leaves(0), lists)}
	threads := [][]api.Op{slices.Clone(kept[0]), slices.Clone(kept[1])}
	threads[0] = threads[0][:3]
	for range 2 {
		got := gate.Play(start[:2], threads, schedule[:5], 99)
		if !slices.Equal(got.Answers[0][1].List, numbers(0, 1, 5)) || !slices.Equal(got.Answers[1][0].List, numbers(0, 1, 5)) {
			t.Error(got)
		}
		free := gate.Free(start[:2], threads)
		for _, trace := range []api.Trace{got, free} {
			clear(trace.State[:cap(trace.State)])
			first, second := trace.Answers[0][1].List, trace.Answers[0][2].List
			clear(first[:cap(first)])
			if !slices.Contains(second, 5) {
				t.Error(second)
			}
			clear(second[:cap(second)])
			clear(trace.Order[:cap(trace.Order)])
			clear(trace.Answers[0][:cap(trace.Answers[0])])
		}
	}
	if !slices.Equal(start, numbers(4, 3, 77, 78)) || !slices.Equal(schedule, []int{0, 0, 0, 1, 1, 9, 9}) {
		t.Error(start, schedule)
	}
	for i, list := range threads {
		if !slices.Equal(list[:len(kept[i])], kept[i]) {
			t.Error(i, list)
		}
	}
}

// chance makes things by dice.
type chance struct{ *rand.Rand }

func dice(seed int64) chance { return chance{rand.New(rand.NewSource(seed))} }

func (c chance) between(low, high int) int { return low + c.Intn(high-low+1) }

func (c chance) number(low, high int) int64 { return int64(c.between(low, high)) }

// start are up to so many members.
func (c chance) start(most int) []int64 {
	var start []int64
	for range c.between(0, most) {
		start = append(start, c.number(-1, 9))
	}
	return start
}

// place is mostly one of a few.
func (c chance) place() int64 {
	if c.Intn(12) == 0 {
		return []int64{-1, 63, 64, 1 << 32, math.MinInt64, math.MaxInt64}[c.Intn(6)]
	}
	return c.number(0, 4)
}

// at is mostly a small number.
func (c chance) at() int64 {
	if c.Intn(20) == 0 {
		return extremes[c.Intn(len(extremes))]
	}
	return c.number(-1, 12)
}

// threads are some operations each, as they come.
func (c chance) threads(most int) [][]api.Op {
	var all [][]api.Op
	for range c.between(1, 4) {
		var list []api.Op
		for range c.between(0, most) {
			list = append(list, c.op())
		}
		all = append(all, list)
	}
	return all
}

func (c chance) op() api.Op {
	switch c.Intn(14) {
	case 0, 1, 2, 3:
		return joins(c.place(), c.at())
	case 4, 5, 6:
		return leaves(c.place())
	case 7:
		return sets(c.place(), c.at())
	case 8:
		return gets(c.place())
	case 9:
		return lists
	case 10, 11:
		return leasts(c.at())
	case 12:
		return mays(c.at(), c.at())
	}
	return api.Op{Kind: c.between(-1, 9), A: c.place(), B: c.at(), C: c.at()}
}

// schedule lets a thread do some steps at a stretch.
func (c chance) schedule(low, high, length int) []int {
	var schedule []int
	for range c.between(0, length) {
		schedule = append(schedule, plain.Turns(c.between(low, high), []int{1, 1, 1, 2, 2, 3, 5}[c.Intn(7)])...)
	}
	return schedule
}

// TestPlayAsTheModel is P1 for this layer.
func TestPlayAsTheModel(t *testing.T) {
	c := dice(1)
	for try := range 12000 {
		start, threads := c.start(4), c.threads(8)
		schedule, most := c.schedule(-1, 5, 40), c.between(0, 120)
		want, _ := modelPlay(start, threads, schedule, most)
		if got := gate.Play(start, threads, schedule, most); !plain.Same(got, want) {
			t.Fatalf("%d: %v %v %v %d\n%+v\n%+v", try, start, threads, schedule, most, got, want)
		}
	}
}

// mostSteps is within how many steps a thread that is alone ends an operation, with so many members and others who may be.
func mostSteps(o api.Op, members int) int {
	switch o.Kind {
	case opJoin:
		return 5
	case opLeave:
		return 3
	case opLeast, opMay:
		return 1 + members
	}
	return 1
}

// TestAloneEnds is P5: whatever has gone before, a thread that is let step alone ends the operation at which it stands within as many steps.
func TestAloneEnds(t *testing.T) {
	c, reached := dice(2), map[int]int{}
	for range 20000 {
		start, threads := c.start(4), c.threads(6)
		schedule, most := c.schedule(0, 3, 25), c.between(0, 60)
		before := gate.Play(start, threads, schedule, most)
		alone := c.Intn(len(threads))
		ended := len(before.Answers[alone])
		if ended == len(threads[alone]) {
			continue
		}
		o := threads[alone][ended]
		play := func(schedule []int, most int) api.Trace { return gate.Play(start, threads, schedule, most) }
		steps := plain.StepsAlone(play, before, alone, mostSteps(o, 6))
		if steps == 0 {
			t.Fatal("not ended", threads, before, alone)
		}
		reached[o.Kind] = max(reached[o.Kind], steps)
	}
	for kind, want := range map[int]int{opJoin: 5, opLeave: 3, opSet: 1, opGet: 1, opList: 1, opLeast: 6, opMay: 6} {
		if reached[kind] < want {
			t.Error(kind, reached[kind], want)
		}
	}
}
