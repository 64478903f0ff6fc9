package multi_test

import (
	"math"
	"math/rand"
	"slices"
	"testing"

	"carillon/api"
	"carillon/multi"
	"carillon/plain"
)

// The kinds of the chapter's table.
const (
	opClaim = 1 + iota
	opWrite
	opOffer
	opCursor
	opPublished
	opGet
	opFinish
)

func claims(n int64) api.Op                  { return api.Op{Kind: opClaim, A: n} }
func writes(i, v int64) api.Op               { return api.Op{Kind: opWrite, A: i, C: v} }
func offers(v, n int64) api.Op               { return api.Op{Kind: opOffer, A: v, B: n} }
func publisheds(from int64) api.Op           { return api.Op{Kind: opPublished, A: from} }
func gets(q int64) api.Op                    { return api.Op{Kind: opGet, A: q} }
func finishes(i, q int64) api.Op             { return api.Op{Kind: opFinish, A: i, B: q} }
func yes(n int64) api.Answer                 { return api.Answer{OK: true, N: n} }
func refused(err api.Errno) api.Answer       { return api.Answer{N: int64(err)} }
func ops(all ...api.Op) []api.Op             { return all }
func answers(all ...api.Answer) []api.Answer { return all }
func numbers(all ...int64) []int64           { return all }

var (
	cursors  = api.Op{Kind: opCursor}
	nothing  = api.Answer{}
	outRange = refused(api.ErrRange)
	isFull   = refused(api.ErrFull)
	isEnd    = refused(api.ErrEnd)
	isNone   = refused(api.ErrNone)
	isLost   = refused(api.ErrLost)
)

// run is a run by a schedule, and what it gives.
type run struct {
	start    []int64
	threads  [][]api.Op
	schedule []int
	want     api.Trace
}

func (r run) check(t *testing.T) {
	t.Helper()
	if got := multi.Play(r.start, r.threads, r.schedule, 999); !plain.Same(got, r.want) {
		t.Errorf("%+v\n%+v", r, got)
	}
}

// checkLone holds a run of one thread, by a schedule and freely, against its answers, steps and state.
func checkLone(t *testing.T, start []int64, list []api.Op, answers []api.Answer, steps int, state ...int64) {
	t.Helper()
	want := api.Trace{Answers: [][]api.Answer{answers}, Order: make([]int, steps), State: state}
	run{start, [][]api.Op{list}, nil, want}.check(t)
	want.Order = nil
	if got := multi.Free(start, [][]api.Op{list}); !plain.Same(got, want) {
		t.Errorf("%v %v, free: %+v, want %+v", start, list, got, want)
	}
}

// TestPlayStart: what is missing, and what is there for each number.
func TestPlayStart(t *testing.T) {
	one := ops(offers(7, 1))
	checkLone(t, nil, one, answers(yes(0)), 6, 0, -1, 0, 7)
	checkLone(t, numbers(), one, answers(yes(0)), 6, 0, -1, 0, 7)
	checkLone(t, numbers(2), one, answers(yes(0)), 6, 0, -1, 0, -2, 7, 0)
	checkLone(t, numbers(2, 5), one, answers(yes(5)), 6, 5, 4, -2, 4, 0, 7)
	checkLone(t, numbers(2, 5, 4), one, answers(yes(5)), 6, 5, 4, 4, -2, 4, 0, 7)
	checkLone(t, numbers(1, 0, 9, math.MinInt64, math.MaxInt64), nil, nil, 0, -1, -1, 9, math.MinInt64, math.MaxInt64, -2, 0)
	for size := int64(1); size <= api.MostSize; size *= 2 {
		for _, first := range firsts {
			want := slices.Concat(numbers(first-1, first-1, 8), slices.Repeat(numbers(-2), int(size)), make([]int64, size))
			for _, got := range []api.Trace{multi.Play(numbers(size, first, 8), nil, nil, 9), multi.Free(numbers(size, first, 8), nil)} {
				if !slices.Equal(got.State, want) || len(got.Answers) != 0 {
					t.Error(size, first)
				}
			}
		}
	}
	// The last of the readers is one that hasn't begun, if there is room for it.
	for _, n := range []int{api.MostReaders - 1, api.MostReaders, api.MostReaders + 1, api.MostReaders + 9} {
		words := slices.Repeat(numbers(3), n)
		words[n-1] = -4
		kept := words[:min(n, api.MostReaders)]
		looks, seen := len(kept), int64(-4)
		if n > len(kept) {
			looks, seen = looks+2, 1
		}
		state := slices.Concat(numbers(1, seen), kept, numbers(-2, -2, 0, 0))
		checkLone(t, slices.Concat(numbers(2, 0), words), ops(claims(2), claims(1)), answers(yes(1), isFull), 3+3+looks, state...)
	}
}

// TestPlayClaims: Claims and Writes of what was claimed.
func TestPlayClaims(t *testing.T) {
	checkLone(t, numbers(2), ops(claims(1), api.Op{Kind: opClaim, A: 1, B: 7, C: 8}, claims(1), claims(0), claims(3), claims(2)),
		answers(yes(0), yes(1), isFull, outRange, outRange, isFull), 3+3+5+4, 1, 1, -2, -2, 0, 0)
	checkLone(t, numbers(2), ops(claims(math.MinInt64), claims(-1<<32+1), claims(-1), claims(1<<31), claims(1<<32+1), claims(math.MaxInt64)),
		answers(outRange, outRange, outRange, outRange, outRange, outRange), 0, -1, -1, -2, -2, 0, 0)
	checkLone(t, numbers(4, end-3), ops(claims(4), claims(2), claims(2), claims(1), claims(1)), answers(isEnd, yes(end-2), isEnd, yes(end-1), isEnd), 1+3+1+3+1,
		end-1, end-4, -2, -2, -2, -2, 0, 0, 0, 0)
	checkLone(t, numbers(4), ops(writes(0, 5), claims(2), writes(1, 6), api.Op{Kind: opWrite, A: 0, B: 9, C: 5}, writes(2, 7), writes(-1, 7), writes(1<<32, 7), writes(math.MinInt64, 7)),
		answers(nothing, yes(1), yes(0), yes(0), nothing, nothing, nothing, nothing), 3+6, 1, -1, 0, 0, -2, -2, 5, 6, 0, 0)
	// It is the last claim that counts, and none that was refused, nor an Offer.
	checkLone(t, numbers(4), ops(claims(2), claims(1), writes(0, 5), writes(1, 6), claims(0), claims(4), writes(0, 7), offers(8, 1), writes(0, 9)),
		answers(yes(1), yes(2), yes(0), nothing, outRange, isFull, yes(0), yes(3), yes(0)), 3+3+3+0+5+3+6+3, 3, 2, -2, -2, 0, 0, 0, 0, 9, 8)
	// What was claimed may be written again, in Play.
	checkLone(t, numbers(1), ops(claims(1), writes(0, 5), offers(6, 1), writes(0, 7), gets(0), gets(1)), answers(yes(0), yes(0), yes(1), yes(0), yes(7), isNone), 3+3+(5+3)+3+3+1, 1, 0, 0, 7)
}

// TestPlayOffers: as many values as may be, wrapping round.
func TestPlayOffers(t *testing.T) {
	checkLone(t, numbers(4), ops(offers(7, 3), api.Op{Kind: opOffer, A: -1, B: 1, C: 8}, offers(5, 0), offers(5, -1), offers(5, math.MinInt64), offers(5, 5), offers(5, 6), offers(5, 1<<32+1), offers(5, math.MaxInt64)),
		answers(yes(2), yes(3), outRange, outRange, outRange, outRange, outRange, outRange, outRange), 12+6, 3, -1, 0, 0, 0, 0, 7, 8, 9, -1)
	checkLone(t, numbers(2), ops(offers(math.MaxInt64, 2)), answers(yes(1)), 9, 1, -1, 0, 0, math.MaxInt64, math.MinInt64)
	checkLone(t, numbers(2), ops(offers(5, 2), offers(7, 2), offers(9, 1)), answers(yes(1), yes(3), yes(4)), 9+(6+6)+(5+3), 4, 3, 4, 2, 9, 8)
	checkLone(t, numbers(2, 0, -1), ops(offers(5, 2), offers(7, 1)), answers(yes(1), isFull), 9+4, 1, -1, -1, 0, 0, 5, 6)
	checkLone(t, numbers(2, end-1), ops(offers(5, 2), offers(5, 1), offers(5, 1)), answers(isEnd, yes(end-1), isEnd), 1+6+1, end-1, end-2, -2, 2*(end/2-1), 0, 5)
}

// TestPlayLooks: Cursor, Published and Get; the numbers that a kind doesn't ask for are passed over.
func TestPlayLooks(t *testing.T) {
	fill := ops(offers(5, 2), claims(1), offers(8, 1))
	with := func(list ...api.Op) []api.Op { return slices.Concat(fill, list) }
	then := func(list ...api.Answer) []api.Answer {
		return slices.Concat(answers(yes(1), yes(2), yes(3)), list)
	}
	state := numbers(3, -1, 0, 0, -2, 0, 5, 6, 0, 8)
	checkLone(t, numbers(4), with(cursors, api.Op{Kind: opCursor, A: -1, B: 99, C: 9}), then(yes(3), yes(3)), 9+3+6+2, state...)
	checkLone(t, numbers(4), with(publisheds(0), publisheds(1), publisheds(2), publisheds(3), publisheds(4), api.Op{Kind: opPublished, A: 9, B: 9, C: 9}),
		then(yes(1), yes(1), yes(1), yes(3), yes(3), yes(8)), 18+4+3+2+2+1+1, state...)
	checkLone(t, numbers(4), with(publisheds(-1), publisheds(math.MinInt64), publisheds(math.MinInt64+1), publisheds(end), publisheds(math.MaxInt64), publisheds(end-1)),
		then(yes(-2), yes(math.MinInt64), yes(math.MinInt64), yes(end-1), yes(math.MaxInt64-1), yes(end-2)), 18+1, state...)
	checkLone(t, numbers(4), with(gets(0), api.Op{Kind: opGet, A: 3, B: 1, C: 1}, gets(2), gets(4), gets(-1), gets(end), gets(math.MinInt64), gets(1<<32+1)),
		then(yes(5), yes(8), isNone, isNone, outRange, outRange, outRange, isNone), 18+3+3+1+1+1, state...)
	checkLone(t, numbers(1, 6), ops(offers(5, 1), offers(6, 1), gets(6), gets(7), gets(8)), answers(yes(6), yes(7), isLost, yes(6), isNone), 6+8+1+3+1, 7, 6, 14, 6)
}

// TestPlayFinishes: a reader's word, of any number.
func TestPlayFinishes(t *testing.T) {
	checkLone(t, numbers(2, 0, -1, 7), ops(finishes(0, 4), api.Op{Kind: opFinish, A: 1, B: math.MinInt64, C: 8}, finishes(0, 3), finishes(2, 9), finishes(-1, 9), finishes(1<<32, 9), finishes(math.MaxInt64, 9)),
		answers(yes(0), yes(0), yes(0), nothing, nothing, nothing, nothing), 3, -1, -1, 3, math.MinInt64, -2, -2, 0, 0)
	checkLone(t, numbers(2), ops(finishes(0, 4)), answers(nothing), 0, -1, -1, -2, -2, 0, 0)
	checkLone(t, numbers(1, 0, -1, -1), ops(offers(5, 1), offers(6, 1), finishes(0, 0), offers(6, 1), finishes(1, 0), offers(6, 1), finishes(0, 9), finishes(1, 9), offers(7, 1)),
		answers(yes(0), isFull, yes(0), isFull, yes(0), yes(1), yes(0), yes(0), yes(2)), 6+5+1+5+1+10+2+10, 2, 1, 9, 9, 4, 7)
}

// TestPlayOtherKinds: what the table doesn't have.
func TestPlayOtherKinds(t *testing.T) {
	for _, kind := range []int{0, -1, 8, 99, 1<<32 + 1, math.MinInt, math.MaxInt} {
		checkLone(t, numbers(2, 0, -1), ops(claims(1), api.Op{Kind: kind, B: 1, C: 5}, writes(0, 7)), answers(yes(0), nothing, yes(0)), 6, 0, -1, -1, 0, -2, 7, 0)
	}
}

// everyKind are operations of all kinds, those that would be refused too.
func everyKind() []api.Op {
	return ops(claims(1), claims(0), claims(99), writes(0, 5), writes(-1, 5), offers(5, 1), offers(5, 0), offers(5, 99), cursors, publisheds(0), publisheds(5), publisheds(-5), gets(0), gets(-1), finishes(0, 5), api.Op{}, api.Op{Kind: 8})
}

// TestPlayNoRing: where there can be no ring, all operations answer zero.
func TestPlayNoRing(t *testing.T) {
	every := everyKind()
	var starts [][]int64
	for _, size := range badSizes {
		starts = append(starts, numbers(int64(size)), numbers(int64(size), 0, -1))
	}
	for _, first := range badFirsts {
		starts = append(starts, numbers(4, first), numbers(1, first, 5, 6), numbers(3, first))
	}
	for _, start := range starts {
		threads := [][]api.Op{every, nil, every}
		want := api.Trace{Answers: [][]api.Answer{make([]api.Answer, len(every)), nil, make([]api.Answer, len(every))}}
		for _, most := range []int{0, 99} {
			if got := multi.Play(start, threads, []int{0, 2, 1}, most); !plain.Same(got, want) {
				t.Error(start, got)
			}
		}
		if got := multi.Free(start, threads); !plain.Same(got, want) {
			t.Error(start, got)
		}
	}
}

// TestPlayExamples are the chapter's, as runs.
func TestPlayExamples(t *testing.T) {
	checkLone(t, numbers(4, 0, -1), ops(claims(3), claims(2), finishes(0, 0), claims(2), writes(1, 7), publisheds(0), writes(0, 5), publisheds(0), claims(2), claims(5)),
		answers(yes(2), isFull, yes(0), isFull, yes(0), yes(-1), yes(0), yes(1), yes(4), outRange), 3+4+1+6+3+2+3+4+4, 4, 0, 0, 0, 0, -2, -2, 5, 7, 0, 0)
	checkLone(t, numbers(4, end-1), ops(claims(1), claims(1)), answers(yes(end-1), isEnd), 4, end-1, end-2, -2, -2, -2, -2, 0, 0, 0, 0)
	schedule := []int{0, 0, 1, 1, 0, 1}
	run{numbers(2, 0), [][]api.Op{ops(claims(1)), ops(claims(1))}, schedule, api.Trace{
		Answers: [][]api.Answer{{yes(0)}, {yes(1)}}, Order: append(schedule, 1, 1, 1), State: numbers(1, -1, -2, -2, 0, 0)}}.check(t)
}

// TestPlayMeetings: runs of some threads, step by step.
func TestPlayMeetings(t *testing.T) {
	// Each thread writes what it has claimed itself.
	schedule := plain.Turns(0, 3, 1, 3, 1, 3, 0, 3)
	run{numbers(2, 4), [][]api.Op{ops(claims(1), writes(0, 5)), ops(claims(1), writes(0, 6)), ops(writes(0, 7))}, schedule, api.Trace{
		Answers: [][]api.Answer{{yes(4), yes(0)}, {yes(5), yes(0)}, {nothing}}, Order: schedule, State: numbers(5, 3, 4, 4, 5, 6)}}.check(t)
	// What is written behind what isn't yet is told when that is written too.
	schedule = plain.Turns(0, 3, 1, 6, 2, 2, 0, 2, 2, 2, 0, 1, 2, 3)
	run{numbers(2, 0), [][]api.Op{ops(offers(5, 1)), ops(offers(6, 1)), ops(publisheds(0), publisheds(0), publisheds(0))}, schedule, api.Trace{
		Answers: [][]api.Answer{{yes(0)}, {yes(1)}, {yes(-1), yes(-1), yes(1)}}, Order: schedule, State: numbers(1, -1, 0, 0, 5, 6)}}.check(t)
	// A reader's word right behind the step that has loaded it comes too late, and right ahead of it in time.
	for late, want := range []api.Answer{yes(1), isFull} {
		schedule = plain.Turns(0, 8+late, 1, 1, 0, 9-late)
		state, order := numbers(1, 0, 0, 2, 6), plain.Turns(0, 8, 1, 1, 0, 7)
		if late == 1 {
			state, order = numbers(0, -1, 0, 0, 5), plain.Turns(0, 9, 1, 1, 0, 1)
		}
		run{numbers(1, 0, -1), [][]api.Op{ops(offers(5, 1), offers(6, 1)), ops(finishes(0, 0))}, schedule, api.Trace{
			Answers: [][]api.Answer{{yes(0), want}, {yes(0)}}, Order: order, State: state}}.check(t)
	}
	// Numbers of no thread, and of one that has ended, are passed over.
	run{numbers(1, 0), [][]api.Op{ops(claims(1)), ops(cursors), ops(api.Op{})}, []int{7, 0, 2, -1, 0, 0, 0, 0, 1}, api.Trace{
		Answers: [][]api.Answer{{yes(0)}, {yes(0)}, {nothing}}, Order: plain.Turns(0, 3, 1, 1), State: numbers(0, -1, -2, 0)}}.check(t)
}

// TestPlayStuck: behind each number of steps: what stands at a step has no answer, and hasn't done that step.
func TestPlayStuck(t *testing.T) {
	list := ops(offers(5, 2), claims(1), writes(0, 7), publisheds(1), gets(2), finishes(0, 9), cursors)
	told := answers(yes(1), yes(2), yes(0), yes(2), yes(7), yes(0), yes(2))
	start := func(cursor int64) []int64 { return numbers(cursor, -1, 0, -2, -2, 0, 0) }
	ring := func(cursor, seen, word, one, other, v, w int64) []int64 {
		return numbers(cursor, seen, word, one, other, v, w)
	}
	states := slices.Concat(
		[][]int64{start(-1), start(-1), start(-1), start(1)},
		[][]int64{ring(1, -1, 0, -1, -2, 0, 0), ring(1, -1, 0, -1, -2, 5, 0), ring(1, -1, 0, 0, -2, 5, 0)},
		[][]int64{ring(1, -1, 0, 0, -1, 5, 0), ring(1, -1, 0, 0, -1, 5, 6), ring(1, -1, 0, 0, 0, 5, 6)},
		slices.Repeat([][]int64{ring(1, -1, 0, 0, 0, 5, 6)}, 3),
		slices.Repeat([][]int64{ring(1, 0, 0, 0, 0, 5, 6)}, 2), [][]int64{ring(2, 0, 0, 0, 0, 5, 6)},
		[][]int64{ring(2, 0, 0, 1, 0, 5, 6), ring(2, 0, 0, 1, 0, 7, 6)},
		slices.Repeat([][]int64{ring(2, 0, 0, 2, 0, 7, 6)}, 1+3+3),
		slices.Repeat([][]int64{ring(2, 0, 9, 2, 0, 7, 6)}, 2),
	)
	ends := []int{9, 15, 18, 21, 24, 25, 26}
	for done, state := range states {
		n := 0
		for n < len(ends) && ends[n] <= done {
			n++
		}
		want := api.Trace{Answers: [][]api.Answer{told[:n]}, Order: make([]int, done), State: state, Stuck: done < 26}
		if got := multi.Play(numbers(2, 0, 0), [][]api.Op{list}, nil, done); !plain.Same(got, want) {
			t.Errorf("%d: %+v, want %+v", done, got, want)
		}
	}
	if len(states) != 27 {
		t.Error(len(states))
	}
	for _, most := range []int{math.MinInt, -1, 0} {
		want := api.Trace{Answers: [][]api.Answer{{outRange}, {nothing}}, State: numbers(-1, -1, -2, 0), Stuck: true}
		if got := multi.Play(numbers(1), [][]api.Op{ops(offers(5, 0), offers(5, 1)), ops(writes(0, 1), claims(1))}, []int{0}, most); !plain.Same(got, want) {
			t.Error(most, got)
		}
	}
}

func TestPlayLimits(t *testing.T) {
	// The thread behind the most of them does nothing.
	many := slices.Repeat([][]api.Op{ops(claims(1), writes(0, 7))}, api.MostThreads+2)
	played := multi.Play(numbers(128), many, []int{65, 64, 63, 63, 63}, api.MostSteps)
	for _, got := range []api.Trace{played, multi.Free(numbers(128), many)} {
		state := slices.Concat(numbers(63, -1), make([]int64, 64), slices.Repeat(numbers(-2), 64), slices.Repeat(numbers(7), 64), make([]int64, 64))
		if len(got.Answers) != api.MostThreads || !slices.Equal(got.State, state) || got.Stuck {
			t.Error(len(got.Answers), got.State)
		}
	}
	if first := played.Answers[63][0]; !first.OK || first.N != 0 || played.Order[0] != 63 {
		t.Error(first, played.Order[0])
	}
	long := append(slices.Repeat(ops(claims(0)), api.MostOps-1), offers(5, 1), offers(6, 1))
	for _, got := range []api.Trace{multi.Play(numbers(2), [][]api.Op{long}, nil, api.MostSteps), multi.Free(numbers(2), [][]api.Op{long})} {
		if len(got.Answers[0]) != api.MostOps || !slices.Equal(got.State, numbers(0, -1, 0, -2, 5, 0)) || got.Stuck {
			t.Error(len(got.Answers[0]), got.State)
		}
	}
	busy := [][]api.Op{slices.Repeat(ops(offers(5, 8)), api.MostOps)}
	if got := multi.Play(numbers(8), busy, nil, math.MaxInt); !got.Stuck || len(got.Order) != api.MostSteps {
		t.Error(got.Stuck, len(got.Order))
	}
	for _, got := range []api.Trace{multi.Play(numbers(1, 0, 5), nil, []int{0}, 9), multi.Free(numbers(1, 0, 5), nil)} {
		if !plain.Same(got, api.Trace{State: numbers(-1, -1, 5, -2, 0)}) {
			t.Error(got)
		}
	}
}

// TestPlayMemory: what is handed in stays as it is, its spare room too, and no answer shares memory with it.
func TestPlayMemory(t *testing.T) {
	start, schedule := numbers(2, 0, -1, 77, 78), append(plain.Turns(0, 4, 1, 6), 9, 9)
	all := [][]api.Op{ops(offers(5, 1), finishes(0, 4), cursors), ops(offers(7, 1), gets(0)), ops(cursors)}
	threads := [][]api.Op{slices.Clone(all[0]), slices.Clone(all[1]), slices.Clone(all[2])}
	threads[0] = threads[0][:2]
	for range 2 {
		got := multi.Play(start[:3], threads[:2], schedule[:10], 99)
		if !slices.Equal(got.State, numbers(1, -1, 4, 0, 0, 5, 7)) {
			t.Error(got.State)
		}
		free := multi.Free(start[:3], threads[:2])
		for _, list := range [][]int64{got.State, free.State} {
			clear(list[:cap(list)])
		}
		clear(got.Order[:cap(got.Order)])
		clear(got.Answers[0][:cap(got.Answers[0])])
	}
	if !slices.Equal(start, numbers(2, 0, -1, 77, 78)) || !slices.Equal(schedule, append(plain.Turns(0, 4, 1, 6), 9, 9)) {
		t.Error(start, schedule)
	}
	for i, list := range threads {
		if !slices.Equal(list[:len(all[i])], all[i]) {
			t.Error(i, list)
		}
	}
}

// chance makes things by dice.
type chance struct{ *rand.Rand }

func dice(seed int64) chance { return chance{rand.New(rand.NewSource(seed))} }

func (c chance) between(low, high int) int { return low + c.Intn(high-low+1) }

func (c chance) number(low, high int) int64 { return int64(c.between(low, high)) }

// start gives a ring, and up to two readers who have finished what is ahead of the first sequence; now and then there can be none, or the first is near the end.
func (c chance) start() []int64 {
	start := numbers(1<<c.Intn(4), []int64{0, 0, 0, 1, 5, 64, end - 3, end - 9}[c.Intn(8)])
	for range c.Intn(3) {
		start = append(start, start[1]-1)
	}
	if c.Intn(40) == 0 {
		return [][]int64{nil, {2}, {0}, {3, 0}, {2, -1}, {2, end}, {-1, -1}}[c.Intn(7)]
	}
	return start
}

// fairWriter claims and writes some values, and then offers some at a time, from its own number on; what is refused it leaves out. (Behind a claim that is refused it couldn't claim and write again: what it writes would go to the one ahead.)
func (c chance) fairWriter(thread int, size int64, most int) []api.Op {
	var list []api.Op
	v := int64(1000 * (thread + 1))
	if n := c.number(0, int(min(size, 5))); n > 0 {
		list = append(list, claims(n))
		for i := range n {
			list = append(list, writes(n-1-i, v+n-1-i))
		}
	}
	for len(list) < most {
		v += 10
		list = append(list, offers(v, c.number(1, int(min(size, 5)))))
	}
	return list
}

// wild are operations as they come, near the sequences from first on.
func (c chance) wild(start []int64, most int) []api.Op {
	size, first := int(start[0]), start[1]
	near := func() int64 { return first + c.number(-2, 2*size+2) }
	var list []api.Op
	for range most {
		switch c.Intn(12) {
		case 0, 1, 2:
			list = append(list, claims(c.number(0, size+1)))
		case 3, 4, 5:
			list = append(list, writes(c.number(-1, size), c.number(0, 999)))
		case 6:
			list = append(list, offers(c.number(0, 999), c.number(-1, size+2)))
		case 7:
			list = append(list, cursors)
		case 8:
			list = append(list, publisheds(near()))
		case 9:
			list = append(list, gets(near()))
		case 10:
			list = append(list, finishes(c.number(-1, 2), near()))
		default:
			list = append(list, api.Op{Kind: c.between(-1, 9), A: c.number(-2, 9), B: c.number(-2, 9), C: c.number(-2, 9)})
		}
	}
	return list
}

// finisher tells that a reader comes further and further, and looks about meanwhile.
func (c chance) finisher(reader int, done int64, most int) []api.Op {
	var list []api.Op
	for q := done; len(list) < most; q += c.number(0, 3) {
		list = append(list, []api.Op{finishes(int64(reader), q), finishes(int64(reader), q), publisheds(q + 1), gets(q), cursors}[c.Intn(5)])
	}
	return list
}

// fair are some writers who write what they have claimed, once, and a thread for each reader.
func (c chance) fair(start []int64, writers, most int) [][]api.Op {
	var all [][]api.Op
	for i := range writers {
		all = append(all, c.fairWriter(i, start[0], c.between(1, most)))
	}
	for i, done := range start[2:] {
		all = append(all, c.finisher(i, done, c.between(1, 2*most)))
	}
	return all
}

// schedule lets a thread do some steps at a stretch.
func (c chance) schedule(low, high, length int) []int {
	var schedule []int
	for range c.between(0, length) {
		schedule = append(schedule, plain.Turns(c.between(low, high), []int{1, 1, 1, 2, 2, 3, 5, 9}[c.Intn(8)])...)
	}
	return schedule
}

// threads are fair or wild.
func (c chance) threads(start []int64, most int) [][]api.Op {
	start = append(slices.Clone(start), numbers(2, 0)[min(len(start), 2):]...)
	start[0] = max(start[0], 1)
	if c.Intn(2) == 0 {
		return c.fair(start, c.between(1, 3), most)
	}
	var all [][]api.Op
	for range c.between(1, 4) {
		all = append(all, c.wild(start, c.between(0, most)))
	}
	return all
}

// TestPlayAsTheModel is P1 for this layer.
func TestPlayAsTheModel(t *testing.T) {
	c := dice(1)
	for try := range 12000 {
		start := c.start()
		threads := c.threads(start, 8)
		schedule, most := c.schedule(-1, 5, 50), c.between(0, 300)
		want, _ := modelPlay(start, threads, schedule, most)
		if got := multi.Play(start, threads, schedule, most); !plain.Same(got, want) {
			t.Fatalf("%d: %v %v %v %d\n%+v\n%+v", try, start, threads, schedule, most, got, want)
		}
	}
}

// mostSteps is within how many steps a thread that is alone ends an operation, by P13.7 and by the steps of the others.
func mostSteps(o api.Op, size, readers int) int {
	switch o.Kind {
	case opClaim:
		return 8 + 2*int(o.A) + 2*readers
	case opOffer:
		return 8 + 5*int(o.B) + 2*readers
	case opWrite, opGet:
		return 3
	case opPublished:
		return 1 + size
	}
	return 1
}

// TestAloneEnds is P5: whatever has gone before, a thread that is let step alone ends the operation at which it stands within as many steps.
func TestAloneEnds(t *testing.T) {
	c, reached := dice(2), map[int]int{}
	for range 20000 {
		start := numbers(4, 0, -1, -1)
		threads, schedule, most := c.threads(start, 6), c.schedule(0, 3, 25), c.between(0, 120)
		before := multi.Play(start, threads, schedule, most)
		alone := c.Intn(len(threads))
		ended := len(before.Answers[alone])
		if ended == len(threads[alone]) {
			continue
		}
		o := threads[alone][ended]
		play := func(schedule []int, most int) api.Trace { return multi.Play(start, threads, schedule, most) }
		steps := plain.StepsAlone(play, before, alone, mostSteps(o, 4, 2))
		if steps == 0 {
			t.Fatal("not ended", threads, before, alone)
		}
		reached[o.Kind] = max(reached[o.Kind], steps)
	}
	for kind, want := range map[int]int{opClaim: 10, opWrite: 3, opOffer: 20, opCursor: 1, opPublished: 5, opGet: 3, opFinish: 1} {
		if reached[kind] < want {
			t.Error(kind, reached[kind], want)
		}
	}
}

// TestClaimAlone: the most steps that a Claim may need are all but one of those that P13.7 grants: behind what it had loaded when it was held up, all is asked and looked at twice.
func TestClaimAlone(t *testing.T) {
	for size := int64(1); size <= 16; size *= 2 {
		for n := range 4 {
			// Thread 1 is held up with a low number for seen, and lays it when thread 2 is held up behind S1; meanwhile thread 0 goes on, and writes all but the last.
			start := append(numbers(size, 0), slices.Repeat(numbers(999), n)...)
			threads := [][]api.Op{ops(offers(5, 1), offers(6, size), claims(1)), ops(claims(size)), ops(claims(size))}
			schedule := plain.Turns(0, 6, 1, 2+n, 0, 5+n+3*int(size), 2, 1, 0, 5+n, 1, 1)
			before := multi.Play(start, threads, schedule, len(schedule))
			play := func(schedule []int, most int) api.Trace { return multi.Play(start, threads, schedule, most) }
			most := mostSteps(threads[2][0], int(size), n)
			if steps := plain.StepsAlone(play, before, 2, most); before.State[0] != size+1 || before.State[1] != 0 || steps != most-1 {
				t.Error(size, n, before, steps, most)
			}
		}
	}
}

// TestFreeIsSomeSchedule is P2 for this layer: what free threads answer and leave is among what all schedules give.
func TestFreeIsSomeSchedule(t *testing.T) {
	for i, m := range meetings() {
		if len(m.ahead) > 0 {
			continue
		}
		can := map[string]bool{}
		m.each(func(_ []int, walkers []*walker) { can[plain.Outcome(traceOf(walkers))] = true })
		if len(can) < 2 {
			t.Error(i, "all schedules give the same")
		}
		if got, there := plain.Foreign(func() api.Trace { return multi.Free(m.start, m.threads) }, 500, can); there {
			t.Fatalf("%d: no schedule gives %+v", i, got)
		}
	}
}
