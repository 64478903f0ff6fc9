package bits_test

import (
	"math"
	"math/rand"
	"slices"
	"testing"

	"carillon/api"
	"carillon/bits"
	"carillon/plain"
)

// The kinds of the chapter's table.
const (
	opPut = 1 + iota
	opDrop
	opHas
	opClaim
	opCount
	opList
)

func op(kind int, a int64) api.Op { return api.Op{Kind: kind, A: a} }

func yes(n int64) api.Answer             { return api.Answer{OK: true, N: n} }
func listed(numbers ...int64) api.Answer { return api.Answer{OK: true, List: numbers} }

var nothing = api.Answer{}

// far are numbers that are in no set's range, some of which would be if they were cut to fewer bits.
func far() []int64 {
	return []int64{math.MinInt64, -1 << 32, -64, -1, 70, 71, 127, 128, api.MostSize, 1 << 32, 1<<32 + 1, 1 << 62, math.MaxInt64}
}

// same tells whether two runs are alike; of Free and Play, but for the order.
func same(got, want api.Trace) bool {
	return plain.Outcome(got) == plain.Outcome(want) && slices.Equal(got.Order, want.Order)
}

// checkOne holds a run of one thread, by a schedule and freely, against its answers, steps and state.
func checkOne(t *testing.T, start []int64, ops []api.Op, answers []api.Answer, steps int, state []int64) {
	t.Helper()
	want := api.Trace{Answers: [][]api.Answer{answers}, Order: make([]int, steps), State: state}
	if got := bits.Play(start, [][]api.Op{ops}, nil, api.MostSteps); !same(got, want) {
		t.Errorf("%v %v: %+v, want %+v", start, ops, got, want)
	}
	want.Order = nil
	if got := bits.Free(start, [][]api.Op{ops}); !same(got, want) {
		t.Errorf("%v %v, free: %+v, want %+v", start, ops, got, want)
	}
}

// TestPlayTable: each kind by one thread.
func TestPlayTable(t *testing.T) {
	seventy := []int64{70, 1, 69}
	checkOne(t, seventy, []api.Op{op(opPut, 3), op(opPut, 3), op(opPut, 64)}, []api.Answer{yes(1), yes(0), yes(1)}, 5, []int64{1, 3, 64, 69})
	checkOne(t, seventy, []api.Op{op(opDrop, 69), op(opDrop, 69), op(opDrop, 0)}, []api.Answer{yes(1), yes(0), yes(0)}, 4, []int64{1})
	checkOne(t, seventy, []api.Op{op(opHas, 69), op(opHas, 68), op(opHas, 1)}, []api.Answer{yes(1), yes(0), yes(1)}, 3, []int64{1, 69})
	checkOne(t, seventy, []api.Op{{Kind: opClaim, A: 9, B: 8, C: 7}, op(opClaim, -1), op(opClaim, 0)}, []api.Answer{yes(0), yes(2), yes(3)}, 6, []int64{0, 1, 2, 3, 69})
	checkOne(t, seventy, []api.Op{op(opCount, 99), op(opDrop, 1), op(opCount, 0)}, []api.Answer{yes(2), yes(1), yes(1)}, 6, []int64{69})
	checkOne(t, seventy, []api.Op{op(opList, 99), op(opPut, 64), op(opList, 0)}, []api.Answer{listed(1, 69), yes(1), listed(1, 64, 69)}, 6, []int64{1, 64, 69})
	checkOne(t, []int64{3, 0, 2}, []api.Op{op(opClaim, 0), op(opClaim, 0), op(opDrop, 0), op(opClaim, 0)}, []api.Answer{yes(1), nothing, yes(1), yes(0)}, 7, []int64{0, 1, 2})
	checkOne(t, seventy, []api.Op{op(0, 1), op(-1, 1), op(7, 1), op(99, 1), op(math.MinInt, 1), op(math.MaxInt, 1)}, make([]api.Answer, 6), 0, []int64{1, 69})
}

// TestPlayOutOfRange: a number that is not in the range: no step, the zero answer.
func TestPlayOutOfRange(t *testing.T) {
	for _, i := range far() {
		checkOne(t, []int64{70, 1, 69}, []api.Op{op(opPut, i), op(opDrop, i), op(opHas, i)}, make([]api.Answer, 3), 0, []int64{1, 69})
	}
}

// TestPlayStart: sizes and numbers of every kind.
func TestPlayStart(t *testing.T) {
	all := []api.Op{op(opPut, 0), op(opClaim, 0), op(opCount, 0), op(opList, 0)}
	none := []api.Answer{nothing, nothing, yes(0), listed()}
	for _, start := range [][]int64{nil, {}, {0}, {-1}, {math.MinInt64}, {0, 0, 1}, {-5, 0, -1}} {
		checkOne(t, start, all, none, 0, nil)
	}
	checkOne(t, []int64{1, 0}, all, []api.Answer{yes(0), nothing, yes(1), listed(0)}, 4, []int64{0})
	checkOne(t, append([]int64{70, 5, 69, 5, 0}, far()...), nil, nil, 0, []int64{0, 5, 69})
	most, out := int64(api.MostSize), int64(api.MostSize-1)
	for _, size := range []int64{most, most + 1, 1 << 32, 1 << 62, math.MaxInt64} {
		checkOne(t, []int64{size, out, most}, []api.Op{op(opPut, out), op(opPut, most), op(opHas, out), op(opCount, 0)}, []api.Answer{yes(0), nothing, yes(1), yes(1)}, 2+1024, []int64{out})
	}
	checkOne(t, []int64{most - 1, out}, []api.Op{op(opPut, out), op(opPut, out-1)}, []api.Answer{nothing, yes(1)}, 2, []int64{out - 1})
}

func TestPlayExamples(t *testing.T) {
	claim := []api.Op{op(opClaim, 0)}
	put := func(i int64) []api.Op { return []api.Op{op(opPut, i)} }
	drop := func(i int64) []api.Op { return []api.Op{op(opDrop, i)} }
	for i, x := range []struct {
		start    []int64
		threads  [][]api.Op
		schedule []int
		answers  [][]api.Answer
		order    []int
		state    []int64
	}{
		{[]int64{2}, [][]api.Op{claim, claim}, []int{0, 1, 0, 1, 1, 1}, [][]api.Answer{{yes(0)}, {yes(1)}}, []int{0, 1, 0, 1, 1, 1}, []int64{0, 1}},
		{[]int64{1}, [][]api.Op{claim, claim}, []int{0, 1, 1, 0}, [][]api.Answer{{nothing}, {yes(0)}}, []int{0, 1, 1, 0, 0}, []int64{0}},
		{[]int64{9}, [][]api.Op{put(3), put(3)}, []int{0, 1, 1, 0}, [][]api.Answer{{yes(0)}, {yes(1)}}, []int{0, 1, 1, 0, 0}, []int64{3}},
		{[]int64{9}, [][]api.Op{put(3), put(4)}, []int{0, 1, 1, 0}, [][]api.Answer{{yes(1)}, {yes(1)}}, []int{0, 1, 1, 0, 0, 0}, []int64{3, 4}},
		{[]int64{70}, [][]api.Op{put(3), put(64)}, []int{0, 1, 1, 0}, [][]api.Answer{{yes(1)}, {yes(1)}}, []int{0, 1, 1, 0}, []int64{3, 64}},
		{[]int64{9, 3}, [][]api.Op{drop(3), drop(3)}, nil, [][]api.Answer{{yes(1)}, {yes(0)}}, []int{0, 1, 0, 1, 1}, nil},
		{[]int64{9, 3}, [][]api.Op{drop(3), {op(opHas, 3), op(opHas, 3)}}, []int{0, 1, 0, 1}, [][]api.Answer{{yes(1)}, {yes(1), yes(0)}}, []int{0, 1, 0, 1}, nil},
		{[]int64{70, 0}, [][]api.Op{{op(opList, 0)}, {op(opDrop, 0), op(opPut, 64)}}, []int{0, 1, 1, 1, 1, 0}, [][]api.Answer{{listed(0, 64)}, {yes(1), yes(1)}}, []int{0, 1, 1, 1, 1, 0}, []int64{64}},
		{[]int64{70, 64}, [][]api.Op{{op(opCount, 0)}, {op(opDrop, 64), op(opPut, 0)}}, []int{0, 1, 1, 1, 1, 0}, [][]api.Answer{{yes(0)}, {yes(1), yes(1)}}, []int{0, 1, 1, 1, 1, 0}, []int64{0}},
		{nil, [][]api.Op{claim, {op(99, 0)}}, []int{0, 1}, [][]api.Answer{{nothing}, {nothing}}, nil, nil},
	} {
		want := api.Trace{Answers: x.answers, Order: x.order, State: x.state}
		if got := bits.Play(x.start, x.threads, x.schedule, 99); !same(got, want) {
			t.Errorf("%d: %+v, want %+v", i, got, want)
		}
	}
}

// TestPlayStuck: what stands at a step when the run is stuck has no answer, and hasn't done that step.
func TestPlayStuck(t *testing.T) {
	start := []int64{70, 1}
	for _, x := range []struct {
		op    api.Op
		steps int
		after []int64
	}{
		{op(opPut, 5), 2, []int64{1, 5}},
		{op(opDrop, 1), 2, nil},
		{op(opHas, 1), 1, []int64{1}},
		{op(opClaim, 0), 2, []int64{0, 1}},
		{op(opCount, 0), 2, []int64{1}},
		{op(opList, 0), 2, []int64{1}},
	} {
		threads := [][]api.Op{{op(99, 0), x.op}}
		for most := -2; most < x.steps; most++ {
			want := api.Trace{Answers: [][]api.Answer{{nothing}}, Order: make([]int, max(most, 0)), State: []int64{1}, Stuck: true}
			if got := bits.Play(start, threads, nil, most); !same(got, want) {
				t.Errorf("%v %d: %+v", x.op, most, got)
			}
		}
		if got := bits.Play(start, threads, nil, x.steps); got.Stuck || len(got.Answers[0]) != 2 || len(got.Order) != x.steps || !slices.Equal(got.State, x.after) {
			t.Errorf("%v: %+v", x.op, got)
		}
	}
}

func TestPlayLimits(t *testing.T) {
	many := slices.Repeat([][]api.Op{{op(opClaim, 0)}}, api.MostThreads+3)
	for _, got := range []api.Trace{bits.Play([]int64{999}, many, []int{66, 64}, api.MostSteps), bits.Free([]int64{999}, many)} {
		if len(got.Answers) != api.MostThreads || len(got.State) != api.MostThreads || got.Stuck {
			t.Error(len(got.Answers), got.State)
		}
	}
	long := slices.Repeat([]api.Op{op(opHas, 0)}, api.MostOps+2)
	for _, got := range []api.Trace{bits.Play([]int64{1}, [][]api.Op{long}, nil, api.MostSteps), bits.Free([]int64{1}, [][]api.Op{long})} {
		if len(got.Answers[0]) != api.MostOps || got.Stuck {
			t.Error(len(got.Answers[0]))
		}
	}
	for _, got := range []api.Trace{bits.Play([]int64{9, 4}, nil, []int{0}, 9), bits.Free([]int64{9, 4}, nil)} {
		if !same(got, api.Trace{State: []int64{4}}) {
			t.Error(got)
		}
	}
}

// TestPlayMemory: what is handed in stays as it is, its spare room too, and no answer shares it or another one's.
func TestPlayMemory(t *testing.T) {
	room, schedule := []int64{70, 6, 77, 78}, []int{1, 0, 9, 9}
	threads := [][]api.Op{{op(opList, 0), op(opList, 0)}, {op(opList, 0), op(99, 0)}, {op(opClaim, 0)}}
	for _, play := range []func() api.Trace{
		func() api.Trace { return bits.Play(room[:2], threads[:2], schedule[:2], 99) },
		func() api.Trace { return bits.Free(room[:2], threads[:2]) },
	} {
		first := play()
		want := plain.Outcome(first)
		for _, list := range [][]int64{first.Answers[0][0].List, first.Answers[1][0].List, first.State} {
			whole, kept := list[:cap(list)], slices.Clone(list)
			for i := range whole {
				whole[i] = -1
			}
			copy(list, kept)
			if plain.Outcome(first) != want {
				t.Errorf("%+v", first)
			}
		}
		clear(first.Answers[0][:cap(first.Answers[0])])
		if again := play(); plain.Outcome(again) != want || !slices.Equal(again.State, []int64{6}) {
			t.Errorf("%+v", again)
		}
	}
	if !slices.Equal(room, []int64{70, 6, 77, 78}) || !slices.Equal(schedule, []int{1, 0, 9, 9}) || threads[1][1] != op(99, 0) || threads[2][0] != op(opClaim, 0) {
		t.Error(room, schedule, threads)
	}
}

// sheet is a plain set: the places of each word.
type sheet struct {
	size  int64
	words [][64]bool
}

func newSheet(start []int64) *sheet {
	x := &sheet{}
	if len(start) > 0 {
		x.size = start[0]
	}
	for i := int64(0); i < x.size; i += 64 {
		x.words = append(x.words, [64]bool{})
	}
	for n, i := range start {
		if n > 0 && i >= 0 && i < x.size {
			x.words[i/64][i%64] = true
		}
	}
	return x
}

func (x *sheet) numbers() []int64 {
	var all []int64
	for i := range x.size {
		if x.words[i/64][i%64] {
			all = append(all, i)
		}
	}
	return all
}

// walker is a thread of a plain reading of the chapter: the word at which its operation stands, what was loaded if it stands at S2, and what a look has found so far.
type walker struct {
	set     *sheet
	ops     []api.Op
	answers []api.Answer
	word    int
	second  bool
	old     [64]bool
	found   []int64
}

func (w *walker) Ended() bool { return len(w.answers) == len(w.ops) }

func (w *walker) end(a api.Answer) {
	w.answers = append(w.answers, a)
	w.word, w.second, w.found = 0, false, nil
}

// advance passes over the operations that have no step.
func (w *walker) advance() {
	for !w.Ended() {
		op := w.ops[len(w.answers)]
		switch {
		case op.Kind >= opPut && op.Kind <= opHas && op.A >= 0 && op.A < w.set.size:
			return
		case op.Kind >= opClaim && op.Kind <= opList && w.set.size > 0:
			return
		case op.Kind == opCount || op.Kind == opList:
			w.end(yes(0))
		default:
			w.end(nothing)
		}
	}
}

func (w *walker) Step() {
	op := w.ops[len(w.answers)]
	switch op.Kind {
	case opPut, opDrop:
		w.change(op.A/64, op.A%64, op.Kind == opPut)
	case opHas:
		w.end(yes(int64(btoi(w.set.words[op.A/64][op.A%64]))))
	case opClaim:
		w.claim()
	default:
		w.look(op.Kind)
	}
	w.advance()
}

func (w *walker) change(word, place int64, put bool) {
	if !w.second {
		w.old = w.set.words[word]
		if w.second = true; w.old[place] == put {
			w.end(yes(0))
		}
		return
	}
	w.second = false
	if w.set.words[word] == w.old {
		w.set.words[word][place] = put
		w.end(yes(1))
	}
}

// free is the least number of the loaded word that wasn't in, or -1.
func (w *walker) free() int64 {
	for place, in := range w.old {
		if i := int64(64*w.word + place); !in && i < w.set.size {
			return i
		}
	}
	return -1
}

func (w *walker) claim() {
	here := &w.set.words[w.word]
	if w.second {
		if w.second = false; *here == w.old {
			i := w.free()
			here[i%64] = true
			w.end(yes(i))
		}
		return
	}
	w.old = *here
	if w.second = w.free() >= 0; w.second {
		return
	}
	if w.word++; w.word == len(w.set.words) {
		w.end(nothing)
	}
}

func (w *walker) look(kind int) {
	for place, in := range w.set.words[w.word] {
		if in {
			w.found = append(w.found, int64(64*w.word+place))
		}
	}
	if w.word++; w.word < len(w.set.words) {
		return
	}
	if kind == opCount {
		w.end(yes(int64(len(w.found))))
	} else {
		w.end(listed(w.found...))
	}
}

func newWalkers(start []int64, threads [][]api.Op) []*walker {
	set := newSheet(start)
	var walkers []*walker
	for _, ops := range threads {
		w := &walker{set: set, ops: ops}
		w.advance()
		walkers = append(walkers, w)
	}
	return walkers
}

// traceOf is what walkers, one at least, have answered and left.
func traceOf(walkers []*walker) api.Trace {
	run := api.Trace{State: walkers[0].set.numbers()}
	for _, w := range walkers {
		run.Answers = append(run.Answers, w.answers)
	}
	return run
}

func modelPlay(start []int64, threads [][]api.Op, schedule []int, most int) api.Trace {
	walkers := newWalkers(start, threads)
	order, stuck := plain.Run(walkers, schedule, most)
	run := traceOf(walkers)
	run.Order, run.Stuck = order, stuck
	return run
}

// chance makes things by dice.
type chance struct{ *rand.Rand }

func dice(seed int64) chance { return chance{rand.New(rand.NewSource(seed))} }

func (c chance) between(low, high int) int { return low + c.Intn(high-low+1) }

// start is a set of some size about a word's edges, with but few numbers that are free.
func (c chance) start() []int64 {
	size := []int{0, 1, 2, 3, 63, 64, 65, 66, 130}[c.Intn(9)]
	start := []int64{int64(size)}
	free := c.between(0, 3)
	for i := range size {
		if c.Intn(size) >= free {
			start = append(start, int64(i))
		}
	}
	return start
}

// threads are of few numbers, so that they meet.
func (c chance) threads(threads, ops, kinds, size int) [][]api.Op {
	few := []int{0, 1, size - 1, size / 2}
	all := make([][]api.Op, threads)
	for i := range all {
		for range c.between(0, ops) {
			all[i] = append(all[i], op(c.between(1, kinds), int64(few[c.Intn(4)])))
		}
	}
	return all
}

func (c chance) schedule(low, high, length int) []int {
	schedule := make([]int, c.between(0, length))
	for i := range schedule {
		schedule[i] = c.between(low, high)
	}
	return schedule
}

// TestPlayAsTheModel is P1 for this layer.
func TestPlayAsTheModel(t *testing.T) {
	c := dice(1)
	for try := range 20000 {
		start := c.start()
		threads := c.threads(c.between(1, 4), 6, 7, int(start[0]))
		schedule, most := c.schedule(-1, 4, 30), c.between(0, 90)
		got, want := bits.Play(start, threads, schedule, most), modelPlay(start, threads, schedule, most)
		if !same(got, want) {
			t.Fatalf("%d: %v %v %v %d\n%+v\n%+v", try, start, threads, schedule, most, got, want)
		}
	}
}

// meeting is a run whose schedules can all be gone through.
type meeting struct {
	start   []int64
	threads [][]api.Op
}

func meetings() []meeting {
	claim, put0, drop0 := op(opClaim, 0), op(opPut, 0), op(opDrop, 0)
	low := []int64{65}
	for i := range int64(63) {
		low = append(low, i)
	}
	return []meeting{
		{[]int64{2}, [][]api.Op{{claim}, {claim}, {claim}}},
		{[]int64{3}, [][]api.Op{{claim, drop0}, {claim, op(opHas, 1)}}},
		{[]int64{2}, [][]api.Op{{put0, drop0}, {put0, drop0}}},
		{[]int64{2, 0}, [][]api.Op{{claim, op(opList, 0)}, {drop0, put0}}},
		{low, [][]api.Op{{claim}, {claim, op(opDrop, 63)}}},
		{low, [][]api.Op{{op(opPut, 64)}, {claim}, {op(opCount, 0)}}},
		{[]int64{70, 0}, [][]api.Op{{op(opList, 0), op(opCount, 0)}, {drop0, op(opPut, 64)}, {op(opHas, 64)}}},
	}
}

// sums is, for each number of the set, how often it has been claimed or put in, less how often it has been dropped.
func sums(start []int64, threads [][]api.Op, run api.Trace) []int {
	had := make([]int, start[0])
	for _, i := range start[1:] {
		had[i]++
	}
	for n, answers := range run.Answers {
		for k, a := range answers {
			switch o := threads[n][k]; {
			case o.Kind == opClaim && a.OK:
				had[a.N]++
			case o.Kind == opPut && a.N == 1:
				had[o.A]++
			case o.Kind == opDrop && a.N == 1:
				had[o.A]--
			}
		}
	}
	return had
}

// checkHad holds a run, up to wherever it is told, against P4.8: what is in is had by one, what isn't by none.
func checkHad(t *testing.T, m meeting, run api.Trace) {
	t.Helper()
	for i, n := range sums(m.start, m.threads, run) {
		if n != btoi(slices.Contains(run.State, int64(i))) {
			t.Fatalf("%v: %d is had by %d: %+v", m, i, n, run)
		}
	}
}

// TestHadByOne: behind each step of every schedule of some threads, and of many schedules of many.
func TestHadByOne(t *testing.T) {
	for i, m := range meetings() {
		runs := 0
		plain.Schedules(func() []*walker { return newWalkers(m.start, m.threads) }, func(order []int, _ []*walker) {
			runs++
			run := bits.Play(m.start, m.threads, order, 999)
			if checkHad(t, m, run); run.Stuck || !slices.Equal(run.Order, order) {
				t.Fatal(m, order, run)
			}
		})
		if runs < 40 {
			t.Error(i, "only", runs)
		}
	}
	c := dice(2)
	for range 200 {
		m := meeting{start: c.start()}
		if m.start[0] == 0 {
			continue
		}
		m.threads = c.threads(5, 4, opClaim, int(m.start[0]))
		schedule := c.schedule(0, 4, 60)
		for most := range len(schedule) + 1 {
			checkHad(t, m, bits.Play(m.start, m.threads, schedule, most))
		}
		checkHad(t, m, bits.Play(m.start, m.threads, schedule, 999))
	}
}

// bound is how many steps P4.8 grants an operation in a set of the size.
func bound(o api.Op, size int64) int {
	words := wordsOf(int(size))
	return []int{opPut: 3, opDrop: 3, opHas: 1, opClaim: words + 2, opCount: words, opList: words}[o.Kind]
}

// TestAloneEnds: whatever has gone before, a thread that is let step alone ends the operation at which it stands within the bound; and the bound is met.
func TestAloneEnds(t *testing.T) {
	c := dice(3)
	met := [opList + 1]int{}
	for range 20000 {
		start := c.start()
		if start[0] == 0 {
			continue
		}
		threads := c.threads(4, 3, opList, int(start[0]))
		before := bits.Play(start, threads, c.schedule(0, 3, 20), c.between(0, 20))
		alone := c.Intn(4)
		ended := len(before.Answers[alone])
		if ended == len(threads[alone]) {
			continue
		}
		o := threads[alone][ended]
		within := func(steps int) bool {
			schedule := append(slices.Clone(before.Order), slices.Repeat([]int{alone}, steps)...)
			return len(bits.Play(start, threads, schedule, len(schedule)).Answers[alone]) > ended
		}
		if !within(bound(o, start[0])) {
			t.Fatal("not ended", start, threads, before, alone)
		}
		if !within(bound(o, start[0]) - 1) {
			met[o.Kind]++
		}
	}
	if slices.Contains(met[opPut:], 0) {
		t.Error("a bound isn't met", met)
	}
}

// TestFreeIsSomeSchedule is P2 for this layer: what free threads answer and leave is among what all schedules give.
func TestFreeIsSomeSchedule(t *testing.T) {
	for i, m := range meetings() {
		can := map[string]bool{}
		plain.Schedules(func() []*walker { return newWalkers(m.start, m.threads) }, func(_ []int, walkers []*walker) {
			can[plain.Outcome(traceOf(walkers))] = true
		})
		if len(can) < 2 {
			t.Error(i, "all schedules give the same")
		}
		for range 1000 {
			if got := bits.Free(m.start, m.threads); !can[plain.Outcome(got)] || len(got.Order) != 0 {
				t.Fatalf("%d: no schedule gives %+v", i, got)
			}
		}
	}
}

// TestFreeCrowd: many threads over one set: each number is had by as many as say so.
func TestFreeCrowd(t *testing.T) {
	c := dice(4)
	for range 100 {
		m := meeting{[]int64{130}, c.threads(16, 200, opList, 130)}
		run := bits.Free(m.start, m.threads)
		checkHad(t, m, run)
		for n, answers := range run.Answers {
			if len(answers) != len(m.threads[n]) {
				t.Fatal(n, len(answers))
			}
			for k, a := range answers {
				if o := m.threads[n][k]; o.Kind == opCount && (a.N < 0 || a.N > 130) || o.Kind == opList && !slices.IsSorted(a.List) {
					t.Fatal(o, a)
				}
			}
		}
	}
}
