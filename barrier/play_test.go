package barrier_test

import (
	"math"
	"math/rand"
	"slices"
	"testing"

	"carillon/api"
	"carillon/barrier"
	"carillon/plain"
)

// The kinds of the chapter's table, and its ways.
const (
	opWait = 1 + iota
	opLimit
	opAlert
	opClear
	opAlerted
	opStore
	opAdd
)

const (
	eager = 1 + iota
	lean
	rare
)

func waits(q, tries, way int64) api.Op       { return api.Op{Kind: opWait, A: q, B: tries, C: way} }
func stores(word, v int64) api.Op            { return api.Op{Kind: opStore, A: word, B: v} }
func adds(word, v int64) api.Op              { return api.Op{Kind: opAdd, A: word, B: v} }
func yes(n int64) api.Answer                 { return api.Answer{OK: true, N: n} }
func whether(ok bool) api.Answer             { return api.Answer{OK: ok} }
func refused(err api.Errno) api.Answer       { return api.Answer{N: int64(err)} }
func ops(all ...api.Op) []api.Op             { return all }
func answers(all ...api.Answer) []api.Answer { return all }
func numbers(all ...int64) []int64           { return all }

var (
	limits    = api.Op{Kind: opLimit}
	alerts    = api.Op{Kind: opAlert}
	clears    = api.Op{Kind: opClear}
	isAlerted = api.Op{Kind: opAlerted}
	nothing   = api.Answer{}
	isNoWay   = refused(api.ErrKind)
	isNone    = refused(api.ErrNone)
	isEmpty   = refused(api.ErrEmpty)
	isClosed  = refused(api.ErrClosed)
)

// TestKinds: the table's numbers are the package's.
func TestKinds(t *testing.T) {
	kinds := []int{barrier.Wait, barrier.Limit, barrier.Alert, barrier.Clear, barrier.Alerted, barrier.Store, barrier.Add}
	if !slices.Equal(kinds, []int{1, 2, 3, 4, 5, 6, 7}) {
		t.Error(kinds)
	}
}

// run is a run by a schedule, and what it gives.
type run struct {
	words    []int64
	threads  [][]api.Op
	schedule []int
	want     api.Trace
}

func (r run) check(t *testing.T) {
	t.Helper()
	if got := barrier.Play(r.words, r.threads, r.schedule, api.MostSteps); !plain.Same(got, r.want) {
		t.Errorf("%+v\n%+v", r, got)
	}
}

// checkLone holds a run of one thread, by a schedule and freely, against its answers, steps and state.
func checkLone(t *testing.T, words []int64, list []api.Op, answers []api.Answer, steps int, state []int64) {
	t.Helper()
	want := api.Trace{Answers: [][]api.Answer{answers}, Order: make([]int, steps), State: state}
	run{words, [][]api.Op{list}, nil, want}.check(t)
	want.Order = nil
	if got := barrier.Free(words, [][]api.Op{list}); !plain.Same(got, want) {
		t.Errorf("%v %v, free: %+v, want %+v", words, list, got, want)
	}
}

// TestPlayWords: as many words as are handed in, but for those behind the first 65; all of them are sources.
func TestPlayWords(t *testing.T) {
	checkLone(t, nil, ops(limits, isAlerted, stores(0, 5), adds(0, 5), alerts, isAlerted, waits(0, 1, eager), waits(0, 1, 4)),
		answers(yes(-1), nothing, nothing, nothing, whether(true), whether(true), isNone, isNoWay), 3, numbers(1))
	checkLone(t, numbers(), ops(waits(-9, 1, eager), waits(-9, 9, lean), waits(-9, 9, rare)), answers(isNone, isNone, isNone), 0, numbers(0))
	checkLone(t, numbers(7), ops(limits), answers(yes(7)), 1, numbers(7, 0))
	for n := 1; n < 70; n++ {
		var words []int64
		for i := range n {
			words = append(words, int64(100-i))
		}
		some := min(n, 65)
		last := int64(some - 1)
		short := isEmpty
		if last == 0 {
			short = yes(100) // No tries are one.
		}
		state := append(slices.Clone(words[:some]), 0)
		checkLone(t, words, ops(limits, waits(100-last, 1, eager), waits(101-last, 1, rare), waits(100-last, last+1, lean), waits(100-last, last, lean)),
			answers(yes(100-last), yes(100-last), isEmpty, yes(100-last), short), 3*some+2+2*some+2*max(some-1, 1), state)
		state[last] = 3
		checkLone(t, words, ops(stores(last, 3), limits, stores(last+1, 2), adds(last+1, 2), limits), answers(yes(0), yes(3), nothing, nothing, yes(3)), 1+2*some, state)
	}
}

// TestPlayWaits: each way, at ordinary numbers and at the edges.
func TestPlayWaits(t *testing.T) {
	two, still := numbers(5, 3), numbers(5, 3, 0)
	checkLone(t, two, ops(waits(3, 1, eager), waits(4, 2, eager), waits(4, 0, eager), waits(4, -9, eager), waits(4, math.MinInt64, eager)),
		answers(yes(3), isEmpty, isEmpty, isEmpty, isEmpty), 3+6+3+3+3, still)
	checkLone(t, two, ops(waits(3, 1, lean), waits(3, 2, lean), waits(3, 0, lean), waits(4, 7, lean), waits(6, 7, lean), waits(3, math.MinInt64, lean)),
		answers(isEmpty, yes(3), isEmpty, isEmpty, isEmpty, isEmpty), 2+4+2+14+14+2, still)
	checkLone(t, two, ops(waits(3, 1, rare), waits(4, 2, rare), waits(4, 8, rare), waits(4, 9, rare), waits(4, 17, rare), waits(4, -1, rare)),
		answers(yes(3), isEmpty, isEmpty, isEmpty, isEmpty, isEmpty), 3+5+17+20+37+3, still)
	for _, tries := range numbers(1023, 1024, 1025, 1<<32, 1<<32+1, math.MaxInt64) {
		n := int(min(tries, 1024))
		checkLone(t, two, ops(waits(4, tries, eager), waits(4, tries, lean), waits(4, tries, rare)), answers(isEmpty, isEmpty, isEmpty), 3*n+2*n+2*n+128, still)
	}
	for _, way := range numbers(math.MinInt64, -1<<32, -1, 0, 4, 5, 1<<32, 1<<32+1, 1<<32+3, math.MaxInt64) {
		checkLone(t, two, ops(waits(3, 1, way), alerts, waits(3, 1, way)), answers(isNoWay, whether(true), isNoWay), 1, numbers(5, 3, 1))
	}
	for _, q := range numbers(math.MinInt64, -1, 0, 3) {
		checkLone(t, two, ops(waits(q, 9, eager), waits(q, 9, lean), waits(q, 9, rare)), answers(yes(3), yes(3), yes(3)), 3+4+3, still)
	}
	for _, q := range numbers(4, 1<<32, 1<<32+3, math.MaxInt64) {
		checkLone(t, two, ops(waits(q, 9, eager), waits(q, 9, lean), waits(q, 9, rare)), answers(isEmpty, isEmpty, isEmpty), 27+18+20, still)
	}
	checkLone(t, numbers(math.MinInt64, math.MaxInt64), ops(waits(math.MinInt64, 1, eager), waits(math.MinInt64, 2, lean), waits(math.MinInt64+1, 1, rare), limits), answers(yes(math.MinInt64), yes(math.MinInt64), isEmpty, yes(math.MinInt64)), 3+4+3+2, numbers(math.MinInt64, math.MaxInt64, 0))
	checkLone(t, numbers(math.MaxInt64, math.MaxInt64), ops(waits(math.MaxInt64, 1, eager), waits(math.MaxInt64, 2, lean), waits(math.MaxInt64, 1, rare), limits), slices.Repeat(answers(yes(math.MaxInt64)), 4), 3+4+3+2, numbers(math.MaxInt64, math.MaxInt64, 0))
}

// TestPlayAlerts: the alert's kinds, and waits that find it; the numbers that a kind doesn't ask for are passed over.
func TestPlayAlerts(t *testing.T) {
	checkLone(t, numbers(1), ops(isAlerted, alerts, alerts, isAlerted, clears, clears, isAlerted, waits(1, 1, rare)),
		answers(whether(false), whether(true), whether(false), whether(true), whether(true), whether(false), whether(false), yes(1)), 7+2, numbers(1, 0))
	checkLone(t, numbers(5, 3), ops(api.Op{Kind: opAlert, A: 9, B: 9, C: 9}, waits(3, 9, eager), waits(3, 9, lean), waits(3, 9, rare), api.Op{Kind: opLimit, A: 9, B: 9, C: 9}, api.Op{Kind: opAlerted, A: -1, B: -1, C: -1}),
		answers(whether(true), isClosed, isClosed, isClosed, yes(3), whether(true)), 1+3+2+1, numbers(5, 3, 1))
	checkLone(t, numbers(5, 3), ops(api.Op{Kind: opClear, A: -1, B: 9, C: 9}, alerts, api.Op{Kind: opClear, A: 9}, waits(3, 2, lean)),
		answers(whether(false), whether(true), whether(true), yes(3)), 3+4, numbers(5, 3, 0))
}

// TestPlayChanges: Store and Add, of words and of others.
func TestPlayChanges(t *testing.T) {
	checkLone(t, numbers(5, 3), ops(stores(1, 9), limits, api.Op{Kind: opStore, A: 0, B: math.MinInt64, C: 7}, limits, adds(0, -1), limits, adds(0, 1), api.Op{Kind: opAdd, A: 1, B: -20, C: 7}, stores(1, 0), adds(1, 0)),
		answers(yes(0), yes(5), yes(0), yes(math.MinInt64), yes(math.MaxInt64), yes(9), yes(math.MinInt64), yes(-11), yes(0), yes(0)), 7+3*2, numbers(math.MinInt64, 0, 0))
	for _, word := range numbers(math.MinInt64, -1<<32, -1, 2, 3, 64, 65, 1<<32, 1<<32+1, math.MaxInt64) {
		checkLone(t, numbers(5, 3), ops(stores(word, 9), adds(word, 9)), answers(nothing, nothing), 0, numbers(5, 3, 0))
	}
}

// TestPlayKinds: what is outside the table.
func TestPlayKinds(t *testing.T) {
	var list []api.Op
	for _, kind := range []int{math.MinInt, -1 << 32, -7, -1, 0, 8, 9, 99, 1<<32 + 1, math.MaxInt} {
		list = append(list, api.Op{Kind: kind, A: 1, B: 1, C: 1}, api.Op{Kind: kind}, api.Op{Kind: kind, A: -1, B: -1})
	}
	checkLone(t, numbers(4), list, make([]api.Answer, len(list)), 0, numbers(4, 0))
	checkLone(t, nil, list, make([]api.Answer, len(list)), 0, numbers(0))
}

// TestPlayExamples are the chapter's, as runs.
func TestPlayExamples(t *testing.T) {
	checkLone(t, numbers(5, 3), ops(limits, waits(3, 1, eager), waits(3, 1, lean), waits(3, 2, lean), waits(4, 2, eager), waits(4, 2, rare), waits(1, 1, 4)),
		answers(yes(3), yes(3), isEmpty, yes(3), isEmpty, isEmpty, isNoWay), 2+3+2+4+6+5, numbers(5, 3, 0))
	schedule := []int{0, 0, 0, 1}
	run{numbers(5, 3), [][]api.Op{ops(waits(4, 9, eager)), ops(stores(1, 6))}, schedule, api.Trace{
		Answers: [][]api.Answer{{yes(5)}, {yes(0)}}, Order: append(schedule, 0, 0, 0), State: numbers(5, 6, 0)}}.check(t)
	run{numbers(5, 3), [][]api.Op{ops(waits(4, 9, eager)), ops(alerts)}, schedule, api.Trace{
		Answers: [][]api.Answer{{isClosed}, {whether(true)}}, Order: append(schedule, 0), State: numbers(5, 3, 1)}}.check(t)
}

// TestPlayMeetings: runs of some threads, step by step.
func TestPlayMeetings(t *testing.T) {
	// A lean one goes by what each had when it was found far enough.
	schedule := []int{0, 0, 1, 1, 0, 0}
	run{numbers(2, 0), [][]api.Op{ops(waits(2, 5, lean)), ops(adds(0, 9), adds(1, 3))}, schedule, api.Trace{
		Answers: [][]api.Answer{{yes(2)}, {yes(11), yes(3)}}, Order: schedule, State: numbers(11, 3, 0)}}.check(t)
	// An eager one goes by its last try alone.
	schedule = []int{0, 0, 1, 1, 0, 0, 0, 0}
	run{numbers(2, 0), [][]api.Op{ops(waits(3, 5, eager)), ops(adds(0, 9), adds(1, 3))}, schedule, api.Trace{
		Answers: [][]api.Answer{{yes(3)}, {yes(11), yes(3)}}, Order: schedule, State: numbers(11, 3, 0)}}.check(t)
	// A rare one doesn't see an alert that is cleared in time.
	schedule = slices.Concat(plain.Turns(0, 2, 1, 1, 0, 6, 1, 1, 2, 1, 0, 3))
	run{numbers(2), [][]api.Op{ops(waits(3, 10, rare)), ops(alerts, clears), ops(stores(0, 3))}, schedule, api.Trace{
		Answers: [][]api.Answer{{yes(3)}, {whether(true), whether(true)}, {yes(0)}}, Order: schedule[:len(schedule)-2], State: numbers(3, 0)}}.check(t)
	// Of two who raise the alert one is told that it has.
	schedule = []int{1, 0, 2, 0, 1}
	run{numbers(2), [][]api.Op{ops(alerts, isAlerted), ops(alerts, clears), ops(waits(1, 1, lean))}, schedule, api.Trace{
		Answers: [][]api.Answer{{whether(false), whether(true)}, {whether(true), whether(true)}, {isClosed}}, Order: schedule, State: numbers(2, 0)}}.check(t)
	// Numbers of no thread, and of one that has ended, are passed over.
	run{numbers(4, 5), [][]api.Op{ops(limits), ops(isAlerted), ops(api.Op{})}, []int{7, 0, 2, -1, 0, 0, 0, 0, 1}, api.Trace{
		Answers: [][]api.Answer{{yes(4)}, {whether(false)}, {nothing}}, Order: []int{0, 0, 1}, State: numbers(4, 5, 0)}}.check(t)
}

// TestPlayStuck: behind each number of steps: what stands at a step has no answer, and hasn't done that step.
func TestPlayStuck(t *testing.T) {
	list := ops(stores(0, 6), adds(1, 2), waits(5, 1, eager), waits(5, 2, lean), waits(5, 1, rare), limits, alerts, waits(5, 9, eager), clears, isAlerted)
	told := answers(yes(0), yes(5), yes(5), yes(5), yes(5), yes(5), whether(true), isClosed, whether(true), whether(false))
	ends := []int{1, 2, 5, 9, 12, 14, 15, 16, 17, 18}
	states := slices.Concat([][]int64{numbers(4, 3, 0), numbers(6, 3, 0)}, slices.Repeat([][]int64{numbers(6, 5, 0)}, 13), slices.Repeat([][]int64{numbers(6, 5, 1)}, 2), slices.Repeat([][]int64{numbers(6, 5, 0)}, 2))
	for done, state := range states {
		n := 0
		for n < len(ends) && ends[n] <= done {
			n++
		}
		want := api.Trace{Answers: [][]api.Answer{told[:n]}, Order: make([]int, done), State: state, Stuck: done < 18}
		if got := barrier.Play(numbers(4, 3), [][]api.Op{list}, nil, done); !plain.Same(got, want) {
			t.Errorf("%d: %+v, want %+v", done, got, want)
		}
	}
	if len(states) != 19 {
		t.Error(len(states))
	}
	for _, most := range []int{math.MinInt, -1, 0} {
		want := api.Trace{Answers: [][]api.Answer{{isNoWay}, {nothing}}, State: numbers(4, 0), Stuck: true}
		if got := barrier.Play(numbers(4), [][]api.Op{ops(waits(1, 1, 0), limits), ops(stores(1, 1), alerts)}, []int{0}, most); !plain.Same(got, want) {
			t.Error(most, got)
		}
	}
}

func TestPlayLimits(t *testing.T) {
	// The threads behind the most of them do nothing.
	many := slices.Repeat([][]api.Op{ops(adds(0, 1))}, api.MostThreads+2)
	played := barrier.Play(numbers(0), many, []int{65, 64, 63, 63, 63}, api.MostSteps)
	for _, got := range []api.Trace{played, barrier.Free(numbers(0), many)} {
		if len(got.Answers) != api.MostThreads || got.Stuck || !slices.Equal(got.State, numbers(api.MostThreads, 0)) {
			t.Error(len(got.Answers), got.State)
		}
	}
	if played.Answers[63][0].N != 1 || played.Order[0] != 63 {
		t.Error(played.Answers[63], played.Order[0])
	}
	long := slices.Repeat(ops(adds(1, 1)), api.MostOps+2)
	for _, got := range []api.Trace{barrier.Play(numbers(0, 0), [][]api.Op{long}, nil, api.MostSteps), barrier.Free(numbers(0, 0), [][]api.Op{long})} {
		if len(got.Answers[0]) != api.MostOps || !slices.Equal(got.State, numbers(0, api.MostOps, 0)) || got.Stuck {
			t.Error(len(got.Answers[0]), got.State)
		}
	}
	busy := [][]api.Op{slices.Repeat(ops(limits), api.MostOps)}
	if got := barrier.Play(slices.Repeat(numbers(5), 65), busy, nil, math.MaxInt); !got.Stuck || len(got.Order) != api.MostSteps {
		t.Error(got.Stuck, len(got.Order))
	}
	for _, got := range []api.Trace{barrier.Play(numbers(5), nil, []int{0}, 9), barrier.Free(numbers(5), nil)} {
		if !plain.Same(got, api.Trace{State: numbers(5, 0)}) {
			t.Error(got)
		}
	}
}

// TestPlayMemory: what is handed in stays as it is, its spare room too, and no answer shares memory with it.
func TestPlayMemory(t *testing.T) {
	words, schedule := numbers(4, 3, 77, 78), []int{0, 0, 0, 1, 1, 9, 9}
	kept := [][]api.Op{ops(stores(0, 5), limits, alerts, isAlerted), ops(adds(1, 4), limits, limits)}
	threads := [][]api.Op{slices.Clone(kept[0]), slices.Clone(kept[1])}
	threads[0] = threads[0][:3]
	for range 2 {
		for _, got := range []api.Trace{barrier.Play(words[:2], threads, schedule[:5], 99), barrier.Free(words[:2], threads)} {
			if !slices.Equal(got.State, numbers(5, 7, 1)) {
				t.Error(got)
			}
			clear(got.State[:cap(got.State)])
			clear(got.Order[:cap(got.Order)])
			clear(got.Answers[0][:cap(got.Answers[0])])
		}
	}
	if !slices.Equal(words, numbers(4, 3, 77, 78)) || !slices.Equal(schedule, []int{0, 0, 0, 1, 1, 9, 9}) {
		t.Error(words, schedule)
	}
	for i, list := range threads {
		if !slices.Equal(list[:len(kept[i])], kept[i]) {
			t.Error(i, list)
		}
	}
}

// chance makes things by dice.
type chance struct{ *rand.Rand }

func dice(seed int64) chance { return chance{rand.New(rand.NewSource(seed))} }

func (c chance) between(low, high int) int { return low + c.Intn(high-low+1) }

func (c chance) number(low, high int) int64 { return int64(c.between(low, high)) }

// words are up to so many, each mostly a small number.
func (c chance) words(least, most int) []int64 {
	var words []int64
	for range c.between(least, most) {
		words = append(words, c.small())
	}
	return words
}

func (c chance) small() int64 {
	if c.Intn(30) == 0 {
		return extremes[c.Intn(len(extremes))]
	}
	return c.number(-1, 9)
}

// tries are mostly few.
func (c chance) tries() int64 {
	if c.Intn(8) == 0 {
		return c.number(8, 30)
	}
	return c.number(-1, 6)
}

// threads are some operations each, as they come.
func (c chance) threads(most int) [][]api.Op {
	var all [][]api.Op
	for range c.between(1, 4) {
		var list []api.Op
		for range c.between(0, most) {
			list = append(list, c.op())
		}
		all = append(all, list)
	}
	return all
}

func (c chance) op() api.Op {
	switch c.Intn(16) {
	case 0, 1, 2, 3, 4, 5:
		return waits(c.small(), c.tries(), c.number(1, 3))
	case 6, 7:
		return limits
	case 8:
		return []api.Op{alerts, isAlerted}[c.Intn(2)]
	case 9, 10:
		return clears
	case 11, 12:
		return stores(c.number(-1, 4), c.small())
	case 13, 14:
		return adds(c.number(-1, 4), c.number(0, 4))
	}
	return api.Op{Kind: c.between(-1, 9), A: c.small(), B: c.small(), C: c.small()}
}

// schedule lets a thread do some steps at a stretch.
func (c chance) schedule(low, high, length int) []int {
	var schedule []int
	for range c.between(0, length) {
		schedule = append(schedule, plain.Turns(c.between(low, high), []int{1, 1, 1, 2, 2, 3, 5}[c.Intn(7)])...)
	}
	return schedule
}

// ended is how a wait of some way has ended: OK, or by an error's number.
type ended struct {
	way, err int64
}

func endOf(o api.Op, a api.Answer) ended {
	if a.OK {
		return ended{o.C, 0}
	}
	return ended{o.C, a.N}
}

// TestPlayAsTheModel is P1 for this layer; all ends of the waits come about.
func TestPlayAsTheModel(t *testing.T) {
	c, told := dice(1), map[ended]int{}
	for try := range 12000 {
		words, threads := c.words(0, 4), c.threads(8)
		schedule, most := c.schedule(-1, 5, 40), c.between(0, 250)
		want, walkers := modelPlay(words, threads, schedule, most)
		if got := barrier.Play(words, threads, schedule, most); !plain.Same(got, want) {
			t.Fatalf("%d: %v %v %v %d\n%+v\n%+v", try, words, threads, schedule, most, got, want)
		}
		for _, w := range walkers {
			w.Each(func(o api.Op, a api.Answer, at plain.Span) {
				if o.Kind == opWait && at.First >= 0 {
					told[endOf(o, a)]++
				}
			})
		}
	}
	for _, way := range numbers(eager, lean, rare) {
		for _, err := range []api.Errno{api.OK, api.ErrEmpty, api.ErrClosed} {
			if n := told[ended{way, int64(err)}]; n < 500 {
				t.Error(way, err, n)
			}
		}
	}
}

// mostSteps is within how many steps a thread that is alone ends an operation, with so many sources.
func mostSteps(o api.Op, sources int) int {
	switch tries := triesOf(o); {
	case o.Kind == opLimit:
		return sources
	case o.Kind != opWait:
		return 1
	case o.C == eager:
		return tries * (1 + sources)
	case o.C == lean:
		return tries * 2
	default:
		return tries*sources + (tries+7)/8
	}
}

// TestAloneEnds is P5: whatever has gone before, a thread that is let step alone ends the operation at which it stands within as many steps; and some need all of them.
func TestAloneEnds(t *testing.T) {
	c, reached := dice(2), map[api.Op]bool{}
	for range 12000 {
		words, threads := c.words(1, 4), c.threads(6)
		schedule, most := c.schedule(0, 3, 25), c.between(0, 60)
		before := barrier.Play(words, threads, schedule, most)
		alone := c.Intn(len(threads))
		ended := len(before.Answers[alone])
		if ended == len(threads[alone]) {
			continue
		}
		o := threads[alone][ended]
		play := func(schedule []int, most int) api.Trace { return barrier.Play(words, threads, schedule, most) }
		bound := mostSteps(o, len(words))
		steps := plain.StepsAlone(play, before, alone, bound)
		if steps == 0 {
			t.Fatal("not ended", words, threads, before, alone)
		}
		if steps == bound {
			reached[api.Op{Kind: o.Kind, C: o.C}] = true
		}
	}
	for _, o := range ops(waits(0, 0, eager), waits(0, 0, lean), waits(0, 0, rare), limits, alerts, clears, isAlerted, stores(0, 0), adds(0, 0)) {
		if !reached[api.Op{Kind: o.Kind, C: o.C}] {
			t.Error(o)
		}
	}
}
