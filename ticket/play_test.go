package ticket_test

import (
	"math"
	"math/rand"
	"slices"
	"testing"

	"carillon/api"
	"carillon/plain"
	"carillon/ticket"
)

// The kinds of the chapter's table.
const (
	opDraw = 1 + iota
	opCalled
	opLeave
	opTry
	opWork
	opReadIn
	opReadOut
	opWriteIn
	opWriteOut
	opLook
	opChange
)

func calleds(n, tries int64) api.Op          { return api.Op{Kind: opCalled, A: n, B: tries} }
func leaves(n int64) api.Op                  { return api.Op{Kind: opLeave, A: n} }
func trys(tries int64) api.Op                { return api.Op{Kind: opTry, A: tries} }
func works(tries, by int64) api.Op           { return api.Op{Kind: opWork, A: tries, B: by} }
func readIns(tries int64) api.Op             { return api.Op{Kind: opReadIn, A: tries} }
func writeIns(tries int64) api.Op            { return api.Op{Kind: opWriteIn, A: tries} }
func looks(tries int64) api.Op               { return api.Op{Kind: opLook, A: tries} }
func changes(tries, by int64) api.Op         { return api.Op{Kind: opChange, A: tries, B: by} }
func op(kind int) api.Op                     { return api.Op{Kind: kind} }
func yes(n int64) api.Answer                 { return api.Answer{OK: true, N: n} }
func truth(ok bool) api.Answer               { return api.Answer{OK: ok} }
func seen(y, z int64) api.Answer             { return api.Answer{OK: true, List: []int64{y, z}} }
func ops(all ...api.Op) []api.Op             { return all }
func answers(all ...api.Answer) []api.Answer { return all }

var (
	nothing   = api.Answer{}
	draws     = op(opDraw)
	readOuts  = op(opReadOut)
	writeOuts = op(opWriteOut)
)

// every is all kinds of the table.
func every() []int {
	return []int{opDraw, opCalled, opLeave, opTry, opWork, opReadIn, opReadOut, opWriteIn, opWriteOut, opLook, opChange}
}

// whole is the kinds that go in and out again by themselves.
func whole() []int { return []int{opWork, opLook, opChange} }

// checkOne holds a run of one thread, by a schedule and freely, against its answers, steps and state.
func checkOne(t *testing.T, ops []api.Op, answers []api.Answer, steps int, state ...int64) {
	t.Helper()
	threads := [][]api.Op{ops}
	want := api.Trace{Answers: [][]api.Answer{answers}, Order: make([]int, steps), State: state}
	if got := ticket.Play(threads, nil, api.MostSteps); !plain.Same(got, want) {
		t.Errorf("%v: %+v, want %+v", ops, got, want)
	}
	want.Order = nil
	if got := ticket.Free(threads); !plain.Same(got, want) {
		t.Errorf("%v, free: %+v, want %+v", ops, got, want)
	}
}

// TestPlayTable: each kind by one thread; the numbers that a kind doesn't ask for are passed over.
func TestPlayTable(t *testing.T) {
	checkOne(t, nil, nil, 0, 0, 0, 0, 0, 0, 0)
	checkOne(t, ops(draws, api.Op{Kind: opDraw, A: 7, B: 8, C: 9}, draws), answers(yes(0), yes(1), yes(2)), 3, 3, 0, 0, 0, 0, 0)
	checkOne(t, ops(calleds(0, 1), calleds(1, 3), api.Op{Kind: opCalled, B: 9, C: 5}, calleds(-1, 2)), answers(yes(0), nothing, yes(0), nothing), 7, 0, 0, 0, 0, 0, 0)
	checkOne(t, ops(leaves(0), leaves(0), leaves(-1), api.Op{Kind: opLeave, A: 1, B: 8, C: 9}), answers(yes(0), nothing, nothing, yes(0)), 4, 0, 2, 0, 0, 0, 0)
	checkOne(t, ops(trys(1), trys(3), leaves(0), api.Op{Kind: opTry, A: 2, B: 8, C: 9}), answers(yes(0), nothing, yes(0), yes(1)), 11, 2, 1, 0, 0, 0, 0)
	checkOne(t, ops(works(1, 5), api.Op{Kind: opWork, A: 2, B: -7, C: 9}, works(1, 1)), answers(yes(0), yes(5), yes(-2)), 15, 3, 3, 0, -1, 0, 0)
	checkOne(t, ops(draws, works(2, 5), leaves(0), works(2, 5)), answers(yes(0), nothing, yes(0), yes(0)), 11, 2, 2, 0, 5, 0, 0)
	checkOne(t, ops(readIns(1), api.Op{Kind: opReadIn, A: 3, B: 8, C: 9}, api.Op{Kind: opReadOut, A: 7, B: 8, C: 9}), answers(yes(0), yes(0), yes(0)), 6, 0, 0, 1, 0, 0, 0)
	checkOne(t, ops(readOuts, readIns(1), readOuts, readOuts), answers(nothing, yes(0), yes(0), nothing), 6, 0, 0, 0, 0, 0, 0)
	checkOne(t, ops(writeIns(4), readIns(2), api.Op{Kind: opWriteIn, A: 3, B: 8, C: 9}, readOuts), answers(yes(0), nothing, nothing, nothing), 7, 0, 0, -1, 0, 0, 0)
	checkOne(t, ops(writeOuts, writeIns(1), api.Op{Kind: opWriteOut, A: 7, B: 8, C: 9}, writeOuts, readIns(1), writeOuts), answers(nothing, yes(0), yes(0), nothing, yes(0), nothing), 7, 0, 0, 1, 0, 0, 0)
	checkOne(t, ops(looks(1), api.Op{Kind: opLook, A: 3, B: 8, C: 9}), answers(seen(0, 0), seen(0, 0)), 12, 0, 0, 0, 0, 0, 0)
	checkOne(t, ops(changes(1, 3), looks(1), api.Op{Kind: opChange, A: 2, B: -5, C: 9}, looks(1)), answers(yes(0), seen(3, 3), yes(3), seen(-2, -2)), 24, 0, 0, 0, 0, -2, -2)
	checkOne(t, ops(readIns(1), changes(3, 3), looks(1), readOuts, changes(3, 3)), answers(yes(0), nothing, seen(0, 0), yes(0), yes(0)), 19, 0, 0, 0, 0, 3, 3)
	checkOne(t, ops(writeIns(1), changes(3, 3), looks(2), writeOuts, looks(2)), answers(yes(0), nothing, nothing, yes(0), seen(0, 0)), 13, 0, 0, 0, 0, 0, 0)
	for _, kind := range []int{0, -1, 12, 13, 99, 1<<32 + 1, math.MinInt, math.MaxInt} {
		checkOne(t, ops(api.Op{Kind: kind, A: 1, B: 5, C: 5}), answers(nothing), 0, 0, 0, 0, 0, 0, 0)
	}
}

// TestPlayWraps: what is added wraps around.
func TestPlayWraps(t *testing.T) {
	const least, most = math.MinInt64, math.MaxInt64
	checkOne(t, ops(works(1, most), works(1, 2), works(1, least)), answers(yes(0), yes(most), yes(least+1)), 15, 3, 3, 0, 1, 0, 0)
	checkOne(t, ops(changes(1, least), changes(1, -1), looks(1)), answers(yes(0), yes(least), seen(most, most)), 18, 0, 0, 0, 0, most, most)
	checkOne(t, ops(leaves(least), leaves(most), calleds(least, 1), calleds(most, 1)), answers(nothing, nothing, nothing, nothing), 4, 0, 0, 0, 0, 0, 0)
}

// run is a run by a schedule, and what it gives.
type run struct {
	threads  [][]api.Op
	schedule []int
	want     api.Trace
}

func (r run) check(t *testing.T) {
	t.Helper()
	if got := ticket.Play(r.threads, r.schedule, 99); !plain.Same(got, r.want) {
		t.Errorf("%+v\n%+v", r, got)
	}
}

// TestPlayExamples is the chapter's runs.
func TestPlayExamples(t *testing.T) {
	work := ops(works(1, 5))
	run{[][]api.Op{work, work}, []int{0, 0, 1, 1}, api.Trace{Answers: [][]api.Answer{{yes(0)}, {nothing}},
		Order: []int{0, 0, 1, 1, 0, 0, 0}, State: []int64{1, 1, 0, 5, 0, 0}}}.check(t)
	run{[][]api.Op{ops(draws, draws, calleds(1, 3), leaves(1), leaves(0), calleds(1, 1))}, nil, api.Trace{
		Answers: [][]api.Answer{{yes(0), yes(1), nothing, nothing, yes(0), yes(0)}}, Order: make([]int, 8), State: []int64{2, 1, 0, 0, 0, 0}}}.check(t)
	run{[][]api.Op{ops(writeIns(1), looks(2))}, nil, api.Trace{Answers: [][]api.Answer{{yes(0), nothing}},
		Order: make([]int, 3), State: []int64{0, 0, -1, 0, 0, 0}}}.check(t)
}

// TestPlayLock: runs of some threads with the lock, step by step.
func TestPlayLock(t *testing.T) {
	// Tickets are called up in the order in which they were drawn, and a Try comes behind them all.
	schedule := plain.Turns(0, 1, 1, 1, 1, 1, 0, 1, 1, 2, 2, 2, 1, 1, 2, 2)
	run{[][]api.Op{ops(draws, leaves(0)), ops(draws, calleds(1, 2), calleds(1, 9), leaves(1)), ops(trys(2))}, schedule, api.Trace{
		Answers: [][]api.Answer{{yes(0), yes(0)}, {yes(1), yes(0), yes(0), yes(0)}, {yes(2)}},
		Order:   []int{0, 1, 1, 0, 1, 1, 2, 2, 1, 2, 2}, State: []int64{3, 2, 0, 0, 0, 0}}}.check(t)
	// A Work whose S2 fails has another try; what it adds to is what the other one left.
	schedule = plain.Turns(1, 1, 0, 5, 1, 6)
	run{[][]api.Op{ops(works(1, 5)), ops(works(2, 7))}, schedule, api.Trace{Answers: [][]api.Answer{{yes(0)}, {yes(5)}},
		Order: schedule, State: []int64{2, 2, 0, 12, 0, 0}}}.check(t)
	// The same with a try less.
	run{[][]api.Op{ops(works(1, 5)), ops(works(1, 7))}, schedule, api.Trace{Answers: [][]api.Answer{{yes(0)}, {nothing}},
		Order: schedule[:7], State: []int64{1, 1, 0, 5, 0, 0}}}.check(t)
	// Somebody leaves by a Work's ticket: another one is in with it, and what that one lays is lost; the Work answers what its Try did.
	schedule = plain.Turns(0, 3, 1, 1, 2, 5, 0, 2)
	run{[][]api.Op{ops(works(1, 5)), ops(leaves(0)), ops(works(1, 7))}, schedule, api.Trace{Answers: [][]api.Answer{{yes(0)}, {yes(0)}, {yes(0)}},
		Order: schedule, State: []int64{2, 2, 0, 5, 0, 0}}}.check(t)
	// Round and round.
	run{[][]api.Op{ops(works(3, 1)), ops(works(3, 1)), ops(works(1, 1))}, nil, api.Trace{Answers: [][]api.Answer{{yes(0)}, {yes(1)}, {nothing}},
		Order: []int{0, 1, 2, 0, 1, 2, 0, 1, 0, 1, 0, 1, 1, 1, 1, 1}, State: []int64{2, 2, 0, 2, 0, 0}}}.check(t)
	// Numbers of no thread, and of one that has ended, are passed over.
	run{[][]api.Op{ops(draws), nil, ops(op(99), trys(1))}, []int{7, 2, 1, -1, 2, 2, 0}, api.Trace{
		Answers: [][]api.Answer{{yes(1)}, nil, {nothing, yes(0)}}, Order: []int{2, 2, 0}, State: []int64{2, 0, 0, 0, 0, 0}}}.check(t)
}

// TestPlayGate: runs of some threads with the gate, step by step.
func TestPlayGate(t *testing.T) {
	// Readers are in together; a Change that comes meanwhile fails, and one behind them is done.
	schedule := plain.Turns(0, 2, 1, 3, 2, 2, 0, 4, 2, 1, 1, 3, 2, 6)
	run{[][]api.Op{ops(looks(1)), ops(looks(1)), ops(changes(3, 4), changes(1, 5))}, schedule, api.Trace{
		Answers: [][]api.Answer{{seen(0, 0)}, {seen(0, 0)}, {nothing, yes(0)}},
		Order:   schedule, State: []int64{0, 0, 0, 0, 5, 5}}}.check(t)
	// The ReadOut within a Look does not see who has come and gone, but goes on from S1 where the word is another one.
	schedule = plain.Turns(0, 5, 1, 6, 0, 1)
	run{[][]api.Op{ops(looks(1)), ops(looks(2))}, schedule, api.Trace{Answers: [][]api.Answer{{seen(0, 0)}, {seen(0, 0)}},
		Order: schedule, State: []int64{0, 0, 0, 0, 0, 0}}}.check(t)
	schedule = plain.Turns(0, 5, 1, 2, 0, 3, 1, 4)
	run{[][]api.Op{ops(looks(1)), ops(looks(2))}, schedule, api.Trace{Answers: [][]api.Answer{{seen(0, 0)}, {seen(0, 0)}},
		Order: schedule, State: []int64{0, 0, 0, 0, 0, 0}}}.check(t)
	// A Look's tries: S2 not done, a writer is in, and then done.
	schedule = plain.Turns(0, 1, 1, 1, 0, 1, 1, 3, 0, 1, 1, 2, 0, 6)
	run{[][]api.Op{ops(looks(3)), ops(changes(1, 4))}, schedule, api.Trace{Answers: [][]api.Answer{{seen(4, 4)}, {yes(0)}},
		Order: schedule, State: []int64{0, 0, 0, 0, 4, 4}}}.check(t)
	// The same with a try less.
	run{[][]api.Op{ops(looks(2)), ops(changes(1, 4))}, schedule, api.Trace{Answers: [][]api.Answer{{nothing}, {yes(0)}},
		Order: schedule[:9], State: []int64{0, 0, 0, 0, 4, 4}}}.check(t)
	// Somebody goes out for the writer: a Look is in with it, and tells what is half done; the Change answers what its WriteIn did.
	schedule = plain.Turns(0, 3, 1, 1, 2, 6, 0, 3)
	run{[][]api.Op{ops(changes(1, 4)), ops(writeOuts), ops(looks(1))}, schedule, api.Trace{Answers: [][]api.Answer{{yes(0)}, {yes(0)}, {seen(4, 0)}},
		Order: schedule, State: []int64{0, 0, 0, 0, 4, 4}}}.check(t)
	// And for the reader.
	schedule = plain.Turns(0, 3, 1, 2, 2, 6, 0, 2)
	run{[][]api.Op{ops(looks(1)), ops(readOuts), ops(changes(1, 4))}, schedule, api.Trace{Answers: [][]api.Answer{{seen(0, 4)}, {yes(0)}, {yes(0)}},
		Order: schedule, State: []int64{0, 0, 0, 0, 4, 4}}}.check(t)
}

// TestPlayTries: an Op's tries are taken as an int, and count within their bounds.
func TestPlayTries(t *testing.T) {
	for asked, counted := range tries() {
		n := int64(asked)
		for _, x := range []struct {
			op    api.Op
			steps int
		}{{calleds(1, n), 1}, {trys(n), 2}, {works(n, 9), 2}, {readIns(n), 1}, {writeIns(n), 1}, {looks(n), 1}, {changes(n, 9), 1}} {
			threads, steps := [][]api.Op{ops(draws, writeIns(1), x.op)}, 2+counted*x.steps
			want := api.Trace{Answers: [][]api.Answer{{yes(0), yes(0), nothing}}, Order: make([]int, steps), State: []int64{1, 0, -1, 0, 0, 0}}
			if got := ticket.Play(threads, nil, steps); !plain.Same(got, want) {
				t.Errorf("%v: %d steps, %+v", x.op, len(got.Order), got.Answers)
			}
			want.Order, want.Stuck, want.Answers = want.Order[:steps-1], true, [][]api.Answer{{yes(0), yes(0)}}
			if got := ticket.Play(threads, nil, steps-1); !plain.Same(got, want) {
				t.Errorf("%v: %d steps, %+v", x.op, len(got.Order), got.Answers)
			}
		}
	}
}

// TestPlayStuck: what stands at a step when the run is stuck has no answer, and hasn't done that step.
func TestPlayStuck(t *testing.T) {
	none, drawn, left := []int64{0, 0, 0, 0, 0, 0}, []int64{1, 0, 0, 0, 0, 0}, []int64{0, 1, 0, 0, 0, 0}
	one, write := []int64{0, 0, 1, 0, 0, 0}, []int64{0, 0, -1, 0, 0, 0}
	for _, x := range []struct {
		op     api.Op
		states [][]int64 // by how many steps are done
	}{
		{draws, [][]int64{none, drawn}},
		{calleds(0, 3), [][]int64{none, none}},
		{calleds(5, 3), [][]int64{none, none, none, none}},
		{leaves(0), [][]int64{none, left}},
		{trys(3), [][]int64{none, none, drawn}},
		{works(3, 5), [][]int64{none, none, drawn, drawn, {1, 0, 0, 5, 0, 0}, {1, 1, 0, 5, 0, 0}}},
		{readIns(3), [][]int64{none, none, one}},
		{readOuts, [][]int64{none, none}},
		{writeIns(3), [][]int64{none, write}},
		{writeOuts, [][]int64{none, none}},
		{looks(3), [][]int64{none, none, one, one, one, one, none}},
		{changes(3, 5), [][]int64{none, write, write, {0, 0, -1, 0, 5, 0}, {0, 0, -1, 0, 5, 0}, {0, 0, -1, 0, 5, 5}, {0, 0, 0, 0, 5, 5}}},
	} {
		threads, steps := [][]api.Op{ops(op(99), x.op)}, len(x.states)-1
		for most := -2; most < steps; most++ {
			done := max(most, 0)
			want := api.Trace{Answers: [][]api.Answer{{nothing}}, Order: make([]int, done), State: x.states[done], Stuck: true}
			if got := ticket.Play(threads, nil, most); !plain.Same(got, want) {
				t.Errorf("%v %d: %+v", x.op, most, got)
			}
		}
		if got := ticket.Play(threads, nil, steps); got.Stuck || len(got.Answers[0]) != 2 || len(got.Order) != steps || !slices.Equal(got.State, x.states[steps]) {
			t.Errorf("%v: %+v", x.op, got)
		}
	}
	if got := ticket.Play([][]api.Op{ops(draws)}, []int{0}, math.MinInt); !plain.Same(got, api.Trace{Answers: [][]api.Answer{nil}, State: none, Stuck: true}) {
		t.Error(got)
	}
}

func TestPlayLimits(t *testing.T) {
	many := slices.Repeat([][]api.Op{ops(draws)}, api.MostThreads+3)
	for _, got := range []api.Trace{ticket.Play(many, []int{66, 64}, api.MostSteps), ticket.Free(many)} {
		if len(got.Answers) != api.MostThreads || !slices.Equal(got.State, []int64{64, 0, 0, 0, 0, 0}) || got.Stuck {
			t.Error(len(got.Answers), got.State)
		}
	}
	long := append(slices.Repeat(ops(leaves(7)), api.MostOps-1), draws, draws)
	for _, got := range []api.Trace{ticket.Play([][]api.Op{long}, nil, api.MostSteps), ticket.Free([][]api.Op{long})} {
		if len(got.Answers[0]) != api.MostOps || !slices.Equal(got.State, []int64{1, 0, 0, 0, 0, 0}) || got.Stuck {
			t.Error(len(got.Answers[0]), got.State)
		}
	}
	busy := slices.Repeat([][]api.Op{slices.Repeat(ops(calleds(1, 4)), api.MostOps)}, 5)
	if got := ticket.Play(busy, nil, math.MaxInt); !got.Stuck || len(got.Order) != api.MostSteps {
		t.Error(got.Stuck, len(got.Order))
	}
	for _, got := range []api.Trace{ticket.Play(nil, []int{0}, 9), ticket.Free(nil)} {
		if !plain.Same(got, api.Trace{State: make([]int64, 6)}) {
			t.Error(got)
		}
	}
}

// TestPlayMemory: what is handed in stays as it is, its spare room too, and no answer shares memory with another one.
func TestPlayMemory(t *testing.T) {
	schedule := []int{1, 0, 9, 9}
	threads := [][]api.Op{ops(draws, draws), ops(changes(1, 6), looks(1), looks(2), op(99), draws), ops(draws)}
	threads[1] = threads[1][:4]
	for _, play := range []func() api.Trace{
		func() api.Trace { return ticket.Play(threads[1:2], schedule[:2], 99) },
		func() api.Trace { return ticket.Free(threads[1:2]) },
	} {
		first := play()
		for i, list := range [][]int64{first.Answers[0][1].List, first.Answers[0][2].List, first.State} {
			if want := [][]int64{{6, 6}, {6, 6}, {0, 0, 0, 0, 6, 6}}[i]; !slices.Equal(list, want) {
				t.Error(i, list)
			}
			whole := list[:cap(list)]
			for k := range whole {
				whole[k] = -9
			}
		}
		clear(first.Answers[0][:cap(first.Answers[0])])
		if again := play(); !slices.Equal(again.State, []int64{0, 0, 0, 0, 6, 6}) || !slices.Equal(again.Answers[0][1].List, []int64{6, 6}) {
			t.Errorf("%+v", again)
		}
	}
	if !slices.Equal(schedule, []int{1, 0, 9, 9}) || !slices.Equal(threads[1][:5], ops(changes(1, 6), looks(1), looks(2), op(99), draws)) || threads[0][0] != draws || threads[2][0] != draws {
		t.Error(schedule, threads)
	}
}

// chance makes things by dice.
type chance struct{ *rand.Rand }

func dice(seed int64) chance { return chance{rand.New(rand.NewSource(seed))} }

func (c chance) between(low, high int) int { return low + c.Intn(high-low+1) }

func (c chance) number() int64 {
	if c.Intn(12) == 0 {
		return []int64{math.MinInt64, math.MaxInt64, math.MaxInt64 - 1, 1 << 62}[c.Intn(4)]
	}
	return int64(c.between(-3, 3))
}

// op asks for few tries, and for tickets that may well be drawn.
func (c chance) op(kinds []int) api.Op {
	o := api.Op{Kind: kinds[c.Intn(len(kinds))], A: int64(c.between(0, 4)), B: c.number(), C: c.number()}
	if o.Kind == opCalled {
		o.B = int64(c.between(0, 4))
	}
	return o
}

func (c chance) threads(threads, most int, kinds []int) [][]api.Op {
	all := make([][]api.Op, threads)
	for i := range all {
		for range c.between(0, most) {
			all[i] = append(all[i], c.op(kinds))
		}
	}
	return all
}

// schedule lets a thread do some steps at a stretch.
func (c chance) schedule(low, high, length int) []int {
	var schedule []int
	for range c.between(0, length) {
		schedule = append(schedule, plain.Turns(c.between(low, high), []int{1, 1, 1, 2, 2, 3, 4, 7}[c.Intn(8)])...)
	}
	return schedule
}

// TestPlayAsTheModel is P1 for this layer.
func TestPlayAsTheModel(t *testing.T) {
	c := dice(1)
	kinds := [][]int{append(every(), 0), {opDraw, opCalled, opLeave, opTry, opWork}, {opReadIn, opReadOut, opWriteIn, opWriteOut, opLook, opChange}, whole()}
	for try := range 16000 {
		threads := c.threads(c.between(1, 4), 6, kinds[try%len(kinds)])
		schedule, most := c.schedule(-1, 4, 30), c.between(0, 150)
		want, _ := modelPlay(threads, schedule, most)
		if got := ticket.Play(threads, schedule, most); !plain.Same(got, want) {
			t.Fatalf("%d: %v %v %d\n%+v\n%+v", try, threads, schedule, most, got, want)
		}
	}
}

// boundOf is how many steps an operation needs at most, from wherever it stands, if it is let step alone: a try that fails at its last step, and then one that is done; or all tries while others are in.
func boundOf(o api.Op) int {
	tries := int(max(o.A, 1))
	again := min(tries-1, 1)
	switch o.Kind {
	case opCalled:
		return int(max(o.B, 1))
	case opTry:
		return 2 * tries
	case opWork:
		return max(5+again, 2*tries)
	case opReadIn:
		return max(2+again, tries)
	case opReadOut:
		return 3
	case opWriteIn:
		return tries
	case opLook:
		return max(6+again, tries)
	case opChange:
		return max(6, tries)
	}
	return 1
}

// askedOf is what a bound hangs on.
func askedOf(o api.Op) api.Op {
	switch o.Kind {
	case opDraw, opLeave, opReadOut, opWriteOut:
		return op(o.Kind)
	case opCalled:
		return calleds(0, max(o.B, 1))
	}
	return api.Op{Kind: o.Kind, A: max(o.A, 1)}
}

// TestAloneEnds is P5, and the chapter's words of who is alone: whatever has gone before, a thread that is let step alone ends the operation at which it stands within as many steps; and some need all of them.
func TestAloneEnds(t *testing.T) {
	c := dice(2)
	reached, least := map[api.Op]int{}, map[api.Op]int{}
	for try := range 60000 {
		threads := c.threads(3, 2, [][]int{every(), whole()}[try%2])
		before := ticket.Play(threads, c.schedule(0, 2, 10), c.between(0, 12))
		alone := c.Intn(3)
		ended := len(before.Answers[alone])
		if ended == len(threads[alone]) {
			continue
		}
		play := func(schedule []int, most int) api.Trace { return ticket.Play(threads, schedule, most) }
		o := threads[alone][ended]
		bound := boundOf(o)
		steps := plain.StepsAlone(play, before, alone, bound)
		if steps == 0 {
			t.Fatal("not ended", threads, before, alone)
		}
		what := askedOf(o)
		reached[what], least[what] = max(reached[what], steps), bound
	}
	if len(least) != 4+7*4 {
		t.Error(least)
	}
	for what, bound := range least {
		if reached[what] != bound {
			t.Error(what, reached[what], bound)
		}
	}
}

// TestFreeIsSomeSchedule is P2 for this layer: what free threads answer and leave is among what all schedules give.
func TestFreeIsSomeSchedule(t *testing.T) {
	for i, m := range meetings() {
		if len(m.ahead) > 0 {
			continue
		}
		can := map[string]bool{}
		m.each(func(_ []int, walkers []*walker) { can[plain.Outcome(traceOf(walkers))] = true })
		if len(can) < 2 {
			t.Error(i, "all schedules give the same")
		}
		if got, there := plain.Foreign(func() api.Trace { return ticket.Free(m.threads) }, 500, can); there {
			t.Fatalf("%d: no schedule gives %+v", i, got)
		}
	}
}

// TestFreeThreads is P9.10 of free threads.
func TestFreeThreads(t *testing.T) {
	c := dice(3)
	for round := range 30 {
		threads := make([][]api.Op, 16)
		for i := range threads {
			for range 300 {
				o := api.Op{Kind: append(whole(), opLook, 0)[c.Intn(5)], A: 1 + int64(c.Intn(30)), B: int64(c.between(1, 9))}
				if round%3 == 0 {
					o.A = math.MaxInt64
				}
				threads[i] = append(threads[i], o)
			}
		}
		got := ticket.Free(threads)
		if len(got.Order) != 0 || got.Stuck || len(got.State) != 6 {
			t.Fatal(got.Order, got.Stuck, got.State)
		}
		checkSums(t, threads, got)
	}
}

// checkSums holds a run of Works, Looks and Changes that add more than 0 against P9.10: what those that are done tell is in order as they come.
func checkSums(t *testing.T, threads [][]api.Op, got api.Trace) {
	t.Helper()
	worked, changed := map[int64]int64{}, map[int64]int64{}
	works, looked := int64(0), []int64(nil)
	for i, list := range got.Answers {
		if len(list) != len(threads[i]) {
			t.Fatal(i, len(list))
		}
		for k, a := range list {
			switch o := threads[i][k]; {
			case !a.OK && (a.N != 0 || len(a.List) != 0), a.OK && (len(a.List) == 2) != (o.Kind == opLook), a.OK && o.Kind == 0:
				t.Fatal(o, a)
			case a.OK && o.Kind == opWork:
				worked[a.N] = o.B
				works++
			case a.OK && o.Kind == opChange:
				changed[a.N] = o.B
			case a.OK:
				if a.List[0] != a.List[1] {
					t.Fatal(a)
				}
				looked = append(looked, a.List[0])
			}
		}
	}
	x, _ := sums(worked)
	y, there := sums(changed)
	if want := []int64{works, works, 0, x, y, y}; !slices.Equal(got.State, want) || works == 0 || y == 0 {
		t.Fatal(got.State, want)
	}
	for _, n := range looked {
		if !there[n] {
			t.Fatal("a Look has told", n)
		}
	}
}

// sums goes from 0 on by what each one that told a sum has added; the last sum, and all of them. Where two have told the same, or one what is none of the sums, it comes out at another last one than the run has left.
func sums(added map[int64]int64) (int64, map[int64]bool) {
	n, there := int64(0), map[int64]bool{0: true}
	for range added {
		n += added[n]
		there[n] = true
	}
	return n, there
}
