package solo_test

import (
	"math"
	"math/rand"
	"slices"
	"testing"

	"carillon/api"
	"carillon/plain"
	"carillon/solo"
)

// The kinds of the chapter's table.
const (
	opClaim = 1 + iota
	opPut
	opPublish
	opWrite
	opRead
	opBatch
)

func claims(n int64) api.Op                  { return api.Op{Kind: opClaim, A: n} }
func puts(q, v int64) api.Op                 { return api.Op{Kind: opPut, A: q, B: v} }
func publishes(q int64) api.Op               { return api.Op{Kind: opPublish, A: q} }
func writes(v, n int64) api.Op               { return api.Op{Kind: opWrite, A: v, B: n} }
func batches(most int64) api.Op              { return api.Op{Kind: opBatch, A: most} }
func yes(n int64) api.Answer                 { return api.Answer{OK: true, N: n} }
func refused(err api.Errno) api.Answer       { return api.Answer{N: int64(err)} }
func listed(all ...int64) api.Answer         { return api.Answer{OK: true, List: all} }
func ops(all ...api.Op) []api.Op             { return all }
func answers(all ...api.Answer) []api.Answer { return all }

var (
	reads    = api.Op{Kind: opRead}
	nothing  = api.Answer{}
	outRange = refused(api.ErrRange)
	isFull   = refused(api.ErrFull)
	isEmpty  = refused(api.ErrEmpty)
	isHole   = refused(api.ErrNone)
)

// TestKinds: the table's numbers are the package's.
func TestKinds(t *testing.T) {
	kinds := []int{solo.Claim, solo.Put, solo.Publish, solo.Write, solo.Read, solo.Batch}
	if !slices.Equal(kinds, []int{1, 2, 3, 4, 5, 6}) {
		t.Error(kinds)
	}
}

// run is a run by a schedule, and what it gives.
type run struct {
	size, readers int
	threads       [][]api.Op
	schedule      []int
	want          api.Trace
}

func (r run) check(t *testing.T) {
	t.Helper()
	if got := solo.Play(r.size, r.readers, r.threads, r.schedule, 999); !plain.Same(got, r.want) {
		t.Errorf("%+v\n%+v", r, got)
	}
}

// checkWriter holds a run of the writer alone, by a schedule and freely, against its answers, steps and state.
func checkWriter(t *testing.T, size, readers int, list []api.Op, answers []api.Answer, steps int, state ...int64) {
	t.Helper()
	want := api.Trace{Answers: [][]api.Answer{answers}, Order: make([]int, steps), State: state}
	run{size, readers, [][]api.Op{list}, nil, want}.check(t)
	want.Order = nil
	if got := solo.Free(size, readers, [][]api.Op{list}); !plain.Same(got, want) {
		t.Errorf("%d %d %v, free: %+v, want %+v", size, readers, list, got, want)
	}
}

// TestPlayWriter: each of the writer's kinds; the numbers that a kind doesn't ask for are passed over.
func TestPlayWriter(t *testing.T) {
	checkWriter(t, 2, 0, nil, nil, 0, 0, -1, -2, -2, 0, 0)
	checkWriter(t, 2, 1, nil, nil, 0, 0, -1, -1, -2, -2, 0, 0)
	checkWriter(t, 2, 1, ops(claims(1), api.Op{Kind: opClaim, A: 1, B: 7, C: 8}, claims(1), claims(2), claims(0), claims(3)),
		answers(yes(0), yes(1), isFull, isFull, outRange, outRange), 2, 2, -1, -1, -2, -2, 0, 0)
	checkWriter(t, 2, 0, ops(claims(math.MinInt64), claims(-1<<32+1), claims(-1), claims(1<<31), claims(1<<32+1), claims(math.MaxInt64)),
		answers(outRange, outRange, outRange, outRange, outRange, outRange), 0, 0, -1, -2, -2, 0, 0)
	checkWriter(t, 2, 1, ops(puts(0, 5), claims(2), puts(1, 6), api.Op{Kind: opPut, A: 0, B: 5, C: 8}, puts(2, 7), puts(-1, 7)),
		answers(outRange, yes(0), yes(0), yes(0), outRange, outRange), 6, 2, -1, -1, 0, 0, 5, 6)
	checkWriter(t, 2, 1, ops(publishes(0), claims(2), api.Op{Kind: opPublish, A: 0, B: 7, C: 8}, publishes(0), puts(0, 5), publishes(2), publishes(1), publishes(-1)),
		answers(outRange, yes(0), yes(0), outRange, outRange, outRange, yes(0), outRange), 2, 2, 1, -1, -2, -2, 0, 0)
	checkWriter(t, 4, 0, ops(writes(7, 3), api.Op{Kind: opWrite, A: -1, B: 2, C: 8}, writes(5, 0), writes(5, -1), writes(5, math.MinInt64), writes(5, 5), writes(5, 6), writes(5, 1<<32+1), writes(5, math.MaxInt64)),
		answers(yes(0), yes(3), outRange, outRange, outRange, outRange, outRange, outRange, outRange), 10+7, 5, 4, 2, 0, 0, 0, 0, 8, 9, -1)
	checkWriter(t, 2, 0, ops(writes(math.MaxInt64, 2)), answers(yes(0)), 7, 2, 1, 0, 0, math.MaxInt64, math.MinInt64)
	checkWriter(t, 1, 2, ops(writes(5, 1), writes(6, 1), writes(6, 2)), answers(yes(0), isFull, outRange), 6, 1, 0, -1, -1, 0, 5)
	checkWriter(t, 1, 0, ops(writes(5, 1), writes(6, 1)), answers(yes(0), yes(1)), 8, 2, 1, 2, 6)
	checkWriter(t, 4, 0, ops(claims(2), writes(7, 1)), answers(yes(0), yes(2)), 4, 3, 2, -2, -2, 0, -2, 0, 0, 7, 0)
	for _, kind := range []int{0, -1, opRead, opBatch, 7, 99, 1<<32 + 1, math.MinInt, math.MaxInt} {
		checkWriter(t, 2, 1, ops(writes(5, 1), api.Op{Kind: kind, A: 1, B: 5, C: 5}), answers(yes(0), nothing), 4, 1, 0, -1, 0, -2, 5, 0)
	}
}

// TestPlayReader: each of a reader's kinds, of its own number, behind a Write of 7, 8, 9.
func TestPlayReader(t *testing.T) {
	for _, x := range []struct {
		ops     []api.Op
		answers []api.Answer
		steps   int
		finish  int64
	}{
		{ops(reads, api.Op{Kind: opRead, A: 99, B: -5, C: 8}, reads, reads), answers(yes(7), yes(8), yes(9), isEmpty), 16, 2},
		{ops(batches(2), api.Op{Kind: opBatch, A: 9, B: -5, C: 8}, batches(9)), answers(listed(7, 8), listed(9), isEmpty), 8 + 5 + 1, 2},
		{ops(batches(0), batches(-1), batches(math.MinInt64)), answers(listed(7), listed(8), listed(9)), 15, 2},
		{ops(batches(1), batches(1<<32)), answers(listed(7), listed(8, 9)), 5 + 8, 2},
		{ops(batches(math.MaxInt64)), answers(listed(7, 8, 9)), 11, 2},
		{ops(batches(1<<31 - 1)), answers(listed(7, 8, 9)), 11, 2},
		{ops(batches(1 << 31)), answers(listed(7, 8, 9)), 11, 2},
		{ops(batches(-1 << 32)), answers(listed(7)), 5, 0},
		{nil, nil, 0, -1},
	} {
		for k := range 3 {
			threads := make([][]api.Op, 4)
			threads[0], threads[1+k] = ops(writes(7, 3)), x.ops
			order, numbers, told := plain.Turns(0, 10, 1+k, x.steps), []int64{-1, -1, -1}, [][]api.Answer{{yes(0)}, nil, nil, nil}
			numbers[k], told[1+k] = x.finish, x.answers
			state := slices.Concat([]int64{3, 2}, numbers, []int64{0, 0, 0, -2, 7, 8, 9, 0})
			run{4, 3, threads, order[:10], api.Trace{Answers: told, Order: order, State: state}}.check(t)
		}
	}
	for _, kind := range []int{0, -1, opClaim, opPut, opPublish, opWrite, 7, 99, 1<<32 + 5, math.MinInt, math.MaxInt} {
		threads := [][]api.Op{ops(claims(2)), ops(api.Op{Kind: kind, A: 1, B: 1, C: 1}, reads)}
		want := api.Trace{Answers: [][]api.Answer{{yes(0)}, {nothing, isEmpty}}, Order: []int{1}, State: []int64{2, -1, -1, -2, -2, 0, 0}}
		run{2, 1, threads, nil, want}.check(t)
	}
}

// everyKind are operations of all kinds, those that would be refused too.
func everyKind() []api.Op {
	return ops(claims(1), claims(0), claims(99), puts(0, 5), puts(-1, 5), publishes(0), publishes(-1), writes(5, 1), writes(5, 0), writes(5, 99), reads, batches(3), batches(-3), api.Op{}, api.Op{Kind: 7})
}

// TestPlayOthers: a thread that is neither the writer nor a reader does nothing, whatever it is told.
func TestPlayOthers(t *testing.T) {
	every := everyKind()
	for readers := range 4 {
		threads := make([][]api.Op, readers+3)
		threads[0], threads[readers+1], threads[readers+2] = ops(writes(5, 1)), every, every
		want := api.Trace{Answers: make([][]api.Answer, readers+3), Order: make([]int, 4)}
		want.Answers[0], want.Answers[readers+1], want.Answers[readers+2] = answers(yes(0)), make([]api.Answer, len(every)), make([]api.Answer, len(every))
		want.State = slices.Concat([]int64{1, 0}, slices.Repeat([]int64{-1}, readers), []int64{0, -2, 5, 0})
		run{2, readers, threads, []int{readers + 1, readers + 2, 0}, want}.check(t)
		want.Order = nil
		if got := solo.Free(2, readers, threads); !plain.Same(got, want) {
			t.Error(readers, got)
		}
	}
}

// TestPlayNoRing: where the ring can't be, all operations answer zero.
func TestPlayNoRing(t *testing.T) {
	every := everyKind()
	for _, x := range [][2]int{{0, 1}, {-1, 1}, {3, 1}, {65535, 1}, {65537, 1}, {1 << 17, 1}, {1 << 32, 1}, {1<<32 + 1, 1}, {math.MinInt, 1}, {math.MaxInt, 1}, {2, -1}, {2, 65}, {2, math.MinInt}, {2, math.MaxInt}, {2, 1<<32 + 1}, {0, -1}, {3, 65}} {
		threads := [][]api.Op{every, every, nil, every}
		want := api.Trace{Answers: [][]api.Answer{make([]api.Answer, len(every)), make([]api.Answer, len(every)), nil, make([]api.Answer, len(every))}}
		for _, most := range []int{0, 99} {
			if got := solo.Play(x[0], x[1], threads, []int{0, 2, 1}, most); !plain.Same(got, want) {
				t.Error(x, got)
			}
		}
		if got := solo.Free(x[0], x[1], threads); !plain.Same(got, want) {
			t.Error(x, got)
		}
	}
}

// TestPlayExamples are the chapter's, as runs.
func TestPlayExamples(t *testing.T) {
	schedule := plain.Turns(0, 7, 0, 1, 1, 5, 0, 5, 1, 8, 0, 5, 1, 2)
	run{2, 1, [][]api.Op{ops(writes(7, 2), writes(9, 1), writes(9, 1), claims(3), claims(1), claims(1), puts(4, 5), publishes(4)), ops(reads, batches(9), reads)}, schedule, api.Trace{
		Answers: [][]api.Answer{{yes(0), isFull, yes(2), outRange, yes(3), yes(4), yes(0), yes(0)}, {yes(7), listed(8, 9), isHole}},
		Order:   schedule, State: []int64{5, 4, 2, 4, 0, 5, 8}}}.check(t)
}

// TestPlayMeetings: runs of some threads, step by step.
func TestPlayMeetings(t *testing.T) {
	// The writer looks at reader 0 ahead of its having finished, and at reader 1 behind that.
	schedule := plain.Turns(0, 4, 1, 4, 2, 4, 0, 1, 1, 1, 2, 1, 0, 1)
	run{1, 2, [][]api.Op{ops(writes(5, 1), writes(6, 1), claims(1)), ops(reads), ops(reads)}, schedule, api.Trace{
		Answers: [][]api.Answer{{yes(0), isFull, yes(1)}, {yes(5)}, {yes(5)}},
		Order:   append(slices.Clone(schedule), 0, 0), State: []int64{2, 0, 0, 0, 0, 5}}}.check(t)
	// At both behind that.
	schedule = plain.Turns(0, 4, 1, 5, 2, 5, 0, 6, 0, 2)
	run{1, 2, [][]api.Op{ops(writes(5, 1), writes(6, 1), claims(1)), ops(reads), ops(reads)}, schedule, api.Trace{
		Answers: [][]api.Answer{{yes(0), yes(1), isFull}, {yes(5)}, {yes(5)}},
		Order:   schedule, State: []int64{2, 1, 0, 0, 2, 6}}}.check(t)
	// A reader goes no further than the cursor that it has loaded.
	schedule = plain.Turns(0, 4, 1, 1, 0, 4, 1, 4, 1, 5)
	run{2, 1, [][]api.Op{ops(writes(5, 1), writes(6, 1)), ops(batches(9), batches(9))}, schedule, api.Trace{
		Answers: [][]api.Answer{{yes(0), yes(1)}, {listed(5), listed(6)}},
		Order:   schedule, State: []int64{2, 1, 1, 0, 0, 5, 6}}}.check(t)
	// What is laid and not published isn't seen.
	schedule = plain.Turns(0, 6, 1, 1, 0, 1, 1, 8)
	run{2, 1, [][]api.Op{ops(writes(5, 2)), ops(reads, batches(9))}, schedule, api.Trace{
		Answers: [][]api.Answer{{yes(0)}, {isEmpty, listed(5, 6)}},
		Order:   schedule, State: []int64{2, 1, 1, 0, 0, 5, 6}}}.check(t)
	// Numbers of no thread, and of one that has ended, are passed over.
	run{1, 1, [][]api.Op{ops(writes(5, 1)), ops(reads), ops(reads)}, []int{7, 0, 2, -1, 0, 0, 0, 0, 0, 1}, api.Trace{
		Answers: [][]api.Answer{{yes(0)}, {yes(5)}, {nothing}}, Order: plain.Turns(0, 4, 1, 5), State: []int64{1, 0, 0, 0, 5}}}.check(t)
}

// TestPlayStuck: behind each number of steps: what stands at a step has no answer, and hasn't done that step. What a thread does ahead of its next step is done.
func TestPlayStuck(t *testing.T) {
	fresh := []int64{2, 1, -1, -1, 0, 0, -2, -2, 7, 8, 0, 0}
	claimed := func(next int64) []int64 { return append([]int64{next}, fresh[1:]...) }
	first := [][]int64{claimed(4), {4, 1, -1, -1, 0, 0, -1, -2, 7, 8, 0, 0}, {4, 1, -1, -1, 0, 0, -1, -2, 7, 8, 9, 0}, {4, 1, -1, -1, 0, 0, 0, -2, 7, 8, 9, 0}}
	second := [][]int64{{4, 1, -1, -1, 0, 0, 0, -1, 7, 8, 9, 0}, {4, 1, -1, -1, 0, 0, 0, -1, 7, 8, 9, 10}, {4, 1, -1, -1, 0, 0, 0, 0, 7, 8, 9, 10}}
	for i, x := range []struct {
		thread int
		ops    []api.Op
		states [][]int64 // by how many steps are done; the last operation ends with the last one
	}{
		{0, ops(writes(9, 2)), slices.Concat(first, second, [][]int64{{4, 3, -1, -1, 0, 0, 0, 0, 7, 8, 9, 10}})},
		{0, ops(claims(2), puts(2, 9)), first},
		{0, ops(claims(2), publishes(2)), [][]int64{claimed(4), {4, 2, -1, -1, 0, 0, -2, -2, 7, 8, 0, 0}}},
		{0, ops(claims(2), claims(1)), slices.Repeat([][]int64{claimed(4)}, 3)},
		{0, ops(claims(2), writes(5, 1)), slices.Repeat([][]int64{claimed(4)}, 3)},
		{1, ops(reads), append(slices.Repeat([][]int64{fresh}, 5), []int64{2, 1, 0, -1, 0, 0, -2, -2, 7, 8, 0, 0})},
		{2, ops(reads), append(slices.Repeat([][]int64{fresh}, 5), []int64{2, 1, -1, 0, 0, 0, -2, -2, 7, 8, 0, 0})},
		{2, ops(batches(2)), append(slices.Repeat([][]int64{fresh}, 8), []int64{2, 1, -1, 1, 0, 0, -2, -2, 7, 8, 0, 0})},
	} {
		threads, steps := make([][]api.Op, 3), len(x.states)-1
		threads[0] = ops(writes(7, 2))
		threads[x.thread] = append(threads[x.thread], x.ops...)
		for done, state := range x.states {
			order := plain.Turns(0, 7, x.thread, done)
			got := solo.Play(4, 2, threads, order, 7+done)
			told := len(threads[x.thread])
			if done < steps {
				told--
			}
			if got.Stuck != (done < steps) || len(got.Answers[x.thread]) != told || !slices.Equal(got.Order, order) || !slices.Equal(got.State, state) {
				t.Errorf("%d, %d: %+v", i, done, got)
			}
		}
	}
	for _, most := range []int{math.MinInt, -1, 0} {
		want := api.Trace{Answers: [][]api.Answer{{outRange}, {nothing}}, State: []int64{1, -1, -1, -2, 0}, Stuck: true}
		if got := solo.Play(1, 1, [][]api.Op{ops(writes(5, 0), writes(5, 1)), ops(claims(1), reads)}, []int{0}, most); !plain.Same(got, want) {
			t.Error(most, got)
		}
	}
}

func TestPlayLimits(t *testing.T) {
	// The last of the most readers would be a thread too many.
	many := make([][]api.Op, api.MostThreads+3)
	many[0] = ops(writes(5, 2))
	for i := 1; i < len(many); i++ {
		many[i] = ops(reads)
	}
	schedule, state := []int{66, 64, 0, 0, 0, 0, 0, 0, 0}, []int64{2, 1}
	for k := range int64(api.MostReaders) {
		state = append(state, min(0, int64(api.MostReaders)-2-k))
	}
	got := solo.Play(2, api.MostReaders, many, schedule, api.MostSteps)
	if want := append(state, 0, 0, 5, 6); len(got.Answers) != api.MostThreads || !slices.Equal(got.State, want) || got.Stuck {
		t.Error(len(got.Answers), got.State, want)
	}
	if got := solo.Free(2, api.MostReaders, many); len(got.Answers) != api.MostThreads || got.State[1+api.MostReaders] != -1 || got.State[1] != 1 {
		t.Error(len(got.Answers), got.State)
	}
	long := append(slices.Repeat(ops(claims(0)), api.MostOps-1), writes(5, 1), writes(6, 1))
	for _, got := range []api.Trace{solo.Play(2, 0, [][]api.Op{long}, nil, api.MostSteps), solo.Free(2, 0, [][]api.Op{long})} {
		if len(got.Answers[0]) != api.MostOps || !slices.Equal(got.State, []int64{1, 0, 0, -2, 5, 0}) || got.Stuck {
			t.Error(len(got.Answers[0]), got.State)
		}
	}
	busy := [][]api.Op{slices.Repeat(ops(writes(5, 8)), api.MostOps)}
	if got := solo.Play(8, 0, busy, nil, math.MaxInt); !got.Stuck || len(got.Order) != api.MostSteps {
		t.Error(got.Stuck, len(got.Order))
	}
	for _, got := range []api.Trace{solo.Play(1, 1, nil, []int{0}, 9), solo.Free(1, 1, nil)} {
		if !plain.Same(got, api.Trace{State: []int64{0, -1, -1, -2, 0}}) {
			t.Error(got)
		}
	}
}

// TestPlayMemory: what is handed in stays as it is, its spare room too, and no answer shares memory with another one.
func TestPlayMemory(t *testing.T) {
	schedule := append(plain.Turns(0, 10), 9, 9)
	all := [][]api.Op{ops(writes(5, 3), writes(7, 1)), ops(batches(2), batches(1), reads), ops(reads)}
	threads := [][]api.Op{slices.Clone(all[0]), slices.Clone(all[1]), slices.Clone(all[2])}
	threads[0], threads[1] = threads[0][:1], threads[1][:2]
	for range 2 {
		got := solo.Play(4, 1, threads[:2], schedule[:10], 99)
		lists := [][]int64{got.Answers[1][0].List, got.Answers[1][1].List, got.State}
		for i, want := range [][]int64{{5, 6}, {7}, {3, 2, 2, 0, 0, 0, -2, 5, 6, 7, 0}} {
			if !slices.Equal(lists[i], want) {
				t.Error(i, lists[i])
			}
			scribble(lists[i])
		}
		clear(got.Answers[0][:cap(got.Answers[0])])
		free := solo.Free(4, 1, threads[:2])
		scribble(free.State)
	}
	if !slices.Equal(schedule, append(plain.Turns(0, 10), 9, 9)) {
		t.Error(schedule)
	}
	for i, list := range threads {
		if !slices.Equal(list[:len(all[i])], all[i]) {
			t.Error(i, list)
		}
	}
}

// chance makes things by dice.
type chance struct{ *rand.Rand }

func dice(seed int64) chance { return chance{rand.New(rand.NewSource(seed))} }

func (c chance) between(low, high int) int { return low + c.Intn(high-low+1) }

// sizes are a ring's size and readers; now and then it can't be.
func (c chance) sizes() (size, readers int) {
	if c.Intn(40) == 0 {
		return []int{0, 3, 2, -1}[c.Intn(4)], []int{0, 2, 65, -1}[c.Intn(4)]
	}
	return 1 << c.Intn(4), c.between(0, 3)
}

// fairWriter writes some values at a time, 100 and on; what is refused it leaves out.
func (c chance) fairWriter(size, most int) []api.Op {
	var list []api.Op
	for v := int64(100); len(list) < most; v += 10 {
		list = append(list, writes(v, int64(c.between(1, min(size, 9)))))
	}
	return list
}

// wildWriter claims, puts and publishes as it comes, near the sequences that may be open.
func (c chance) wildWriter(size, most int) []api.Op {
	var list []api.Op
	next := 0
	for range most {
		n, q := c.between(0, size+1), int64(c.between(next-size-1, next+2))
		switch c.Intn(10) {
		case 0, 1:
			list = append(list, claims(int64(n)))
			next += n
		case 2, 3, 4:
			list = append(list, puts(q, 1000+int64(len(list))))
		case 5, 6:
			list = append(list, publishes(q))
		case 7, 8:
			list = append(list, writes(int64(100*len(list)), int64(n)))
			next += n
		default:
			list = append(list, api.Op{Kind: c.between(-1, 8), A: int64(c.between(-2, 9)), B: int64(c.between(-2, 9)), C: int64(c.between(-2, 9))})
		}
	}
	return list
}

func (c chance) reader(most int) []api.Op {
	var list []api.Op
	for range most {
		list = append(list, []api.Op{reads, reads, batches(int64(c.between(-1, 9))), batches(99), batches(int64(c.between(2, 4)))}[c.Intn(5)])
	}
	if c.Intn(10) == 0 {
		list = append(list, api.Op{Kind: c.between(-1, 8), A: int64(c.between(-2, 9)), B: int64(c.between(-2, 9))})
	}
	return list
}

// threads are a writer and some more, each with at most as many operations.
func (c chance) threads(size, readers, most int) [][]api.Op {
	writer := c.fairWriter
	if c.Intn(2) == 0 {
		writer = c.wildWriter
	}
	all := [][]api.Op{writer(max(size, 1), c.between(0, most))}
	for range max(readers, 0) + c.Intn(2) {
		all = append(all, c.reader(c.between(0, most)))
	}
	return all
}

// schedule lets a thread do some steps at a stretch.
func (c chance) schedule(low, high, length int) []int {
	var schedule []int
	for range c.between(0, length) {
		schedule = append(schedule, plain.Turns(c.between(low, high), []int{1, 1, 1, 2, 2, 3, 5, 9}[c.Intn(8)])...)
	}
	return schedule
}

// TestPlayAsTheModel is P1 for this layer.
func TestPlayAsTheModel(t *testing.T) {
	c := dice(1)
	for try := range 12000 {
		size, readers := c.sizes()
		threads := c.threads(size, min(readers, 3), 10)
		schedule, most := c.schedule(-1, 4, 50), c.between(0, 250)
		want, _ := modelPlay(size, readers, threads, schedule, most)
		if got := solo.Play(size, readers, threads, schedule, most); !plain.Same(got, want) {
			t.Fatalf("%d: %d %d %v %v %d\n%+v\n%+v", try, size, readers, threads, schedule, most, got, want)
		}
	}
}

// TestAloneEnds is P5: whatever has gone before, a thread that is let step alone ends the operation at which it stands within as many steps; and some need all of them.
func TestAloneEnds(t *testing.T) {
	c := dice(2)
	const size, readers = 4, 2
	reached := map[int]int{}
	bounds := map[int]int{opClaim: readers, opPut: 3, opPublish: 1, opWrite: readers + 3*size + 1, opRead: 5, opBatch: 3*size + 2}
	for range 20000 {
		threads, schedule, most := c.threads(size, readers, 5), c.schedule(0, 2, 12), c.between(0, 60)
		if c.Intn(50) == 0 { // A lap behind which all slots are free, by dice, is rare.
			threads = [][]api.Op{ops(writes(5, size), writes(9, size)), ops(batches(size)), ops(batches(size))}
			schedule, most = plain.Turns(0, 13, 1, 14, 2, 14), 41
		}
		before := solo.Play(size, readers, threads, schedule, most)
		alone := c.Intn(1 + readers)
		ended := len(before.Answers[alone])
		if ended == len(threads[alone]) {
			continue
		}
		kind := threads[alone][ended].Kind
		play := func(schedule []int, most int) api.Trace { return solo.Play(size, readers, threads, schedule, most) }
		steps := plain.StepsAlone(play, before, alone, bounds[kind])
		if steps == 0 {
			t.Fatal("not ended", threads, before, alone)
		}
		reached[kind] = max(reached[kind], steps)
	}
	for kind, bound := range bounds {
		if reached[kind] != bound {
			t.Error(kind, reached[kind], bound)
		}
	}
}

// TestFreeIsSomeSchedule is P2 for this layer: what free threads answer and leave is among what all schedules give.
func TestFreeIsSomeSchedule(t *testing.T) {
	for i, m := range meetings() {
		if len(m.ahead) > 0 {
			continue
		}
		can := map[string]bool{}
		m.each(func(_ []int, walkers []*walker) { can[plain.Outcome(traceOf(walkers))] = true })
		if len(can) < 2 {
			t.Error(i, "all schedules give the same")
		}
		if got, there := plain.Foreign(func() api.Trace { return solo.Free(m.size, m.readers, m.threads) }, 500, can); there {
			t.Fatalf("%d: no schedule gives %+v", i, got)
		}
	}
}
