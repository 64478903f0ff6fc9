package once_test

import (
	"math"
	"math/rand"
	"reflect"
	"slices"
	"strconv"
	"testing"

	"carillon/api"
	"carillon/once"
	"carillon/turn"
)

func yes(n int64) api.Answer { return api.Answer{OK: true, N: n} }
func no(n int64) api.Answer  { return api.Answer{N: n} }

var nothing = api.Answer{}

// TestPlayTable: each kind by one thread, one behind the other, over two Onces.
func TestPlayTable(t *testing.T) {
	for _, x := range []struct {
		ops     []api.Op
		answers []api.Answer
		steps   int
		state   []int64
	}{
		{[]api.Op{{Kind: 1}, {Kind: 1, A: 1, B: 9, C: 9}}, []api.Answer{no(0), no(0)}, 2, []int64{0, 0, 0, 0, 0, 0}},
		{[]api.Op{{Kind: 2, B: 7}, {Kind: 1}, {Kind: 1, A: 1}}, []api.Answer{yes(7), yes(7), no(0)}, 6, []int64{2, 7, 0, 0, 0, 0}},
		{[]api.Op{{Kind: 2, A: 1, B: -7, C: 4}, {Kind: 2, A: 1, B: 8}, {Kind: 1, A: 1}}, []api.Answer{yes(-7), no(-7), yes(-7)}, 8, []int64{0, 0, 0, 2, -7, 0}},
		{[]api.Op{{Kind: 2}, {Kind: 2, B: 8}}, []api.Answer{yes(0), no(0)}, 6, []int64{2, 0, 0, 0, 0, 0}},
		{[]api.Op{{Kind: 3, B: 5}, {Kind: 3, B: 50, C: 9}, {Kind: 1}}, []api.Answer{yes(6), yes(6), yes(6)}, 10, []int64{2, 6, 1, 0, 0, 0}},
		{[]api.Op{{Kind: 3, A: 1, B: greatest, C: 3}, {Kind: 2, A: 1}}, []api.Answer{yes(least), no(least)}, 9, []int64{0, 0, 0, 2, least, 1}},
		{[]api.Op{{Kind: 3, B: -1, C: -3}, {Kind: 1}}, []api.Answer{yes(0), yes(0)}, 8, []int64{2, 0, 1, 0, 0, 0}},
		{[]api.Op{{Kind: 4, B: 5}, {Kind: 1}}, []api.Answer{no(-6), no(0)}, 5, []int64{0, 0, 1, 0, 0, 0}},
		{[]api.Op{{Kind: 4, C: 9}, {Kind: 4, C: least}, {Kind: 4, C: greatest}, {Kind: 3, B: 5}, {Kind: 4}}, []api.Answer{no(-6), no(-6), no(-6), yes(9), yes(9)}, 20, []int64{2, 9, 4, 0, 0, 0}},
		{[]api.Op{{Kind: 4}, {Kind: 2, B: 7}}, []api.Answer{no(-6), yes(7)}, 7, []int64{2, 7, 1, 0, 0, 0}},
		{[]api.Op{{Kind: 0}, {Kind: -1}, {Kind: 5}, {Kind: 99}, {Kind: math.MinInt}, {Kind: math.MaxInt}}, make([]api.Answer, 6), 0, []int64{0, 0, 0, 0, 0, 0}},
	} {
		got := once.Play(2, [][]api.Op{x.ops}, nil, 99)
		if !reflect.DeepEqual(got.Answers, [][]api.Answer{x.answers}) || len(got.Order) != x.steps || !slices.Equal(got.State, x.state) || got.Stuck {
			t.Errorf("%v: %+v", x.ops, got)
		}
		free := once.Free(2, [][]api.Op{x.ops})
		if !reflect.DeepEqual(free.Answers, got.Answers) || !slices.Equal(free.State, got.State) || len(free.Order) != 0 || free.Stuck {
			t.Errorf("%v, free: %+v", x.ops, free)
		}
	}
}

func TestPlayExamples(t *testing.T) {
	sevenNine := [][]api.Op{{{Kind: 2, B: 7}}, {{Kind: 2, B: 9}}}
	five := []api.Op{{Kind: 3, B: 5, C: 2}}
	for i, x := range []struct {
		threads  [][]api.Op
		schedule []int
		answers  [][]api.Answer
		order    []int
		state    []int64
	}{
		{sevenNine, []int{0, 1, 1, 0, 0}, [][]api.Answer{{yes(7)}, {no(0)}}, []int{0, 1, 1, 0, 0}, []int64{2, 7, 0}},
		{sevenNine, []int{0, 0, 0, 1, 1, 1}, [][]api.Answer{{yes(7)}, {no(7)}}, []int{0, 0, 0, 1, 1, 1}, []int64{2, 7, 0}},
		{sevenNine, []int{0, 1, 0, 0, 1, 1}, [][]api.Answer{{yes(7)}, {no(7)}}, []int{0, 1, 0, 0, 1, 1}, []int64{2, 7, 0}},
		{sevenNine, []int{1, 0, 1, 0}, [][]api.Answer{{no(0)}, {yes(9)}}, []int{1, 0, 1, 0, 1}, []int64{2, 9, 0}},
		{[][]api.Op{{{Kind: 4, C: 1}, {Kind: 3, B: 5, C: 1}}}, nil, [][]api.Answer{{no(-6), yes(7)}}, slices.Repeat([]int{0}, 10), []int64{2, 7, 2}},
		{[][]api.Op{five, five}, []int{0, 0, 1, 1, 1, 1}, [][]api.Answer{{yes(6)}, {no(-4)}}, []int{0, 0, 1, 1, 1, 1, 0, 0, 0, 0}, []int64{2, 6, 1}},
		// the one who gives up is gone when the other's S4 comes
		{[][]api.Op{{{Kind: 4}}, {{Kind: 2, B: 9}, {Kind: 2, B: 8}}}, []int{0, 0, 1, 0, 0, 1}, [][]api.Answer{{no(-6)}, {no(0), yes(8)}}, []int{0, 0, 1, 0, 0, 1, 1, 1, 1}, []int64{2, 8, 1}},
		// and when the other's second try comes
		{[][]api.Op{{{Kind: 4}}, {{Kind: 3, B: 5, C: 2}}}, []int{0, 0, 1, 1, 0, 0}, [][]api.Answer{{no(-6)}, {yes(7)}}, []int{0, 0, 1, 1, 0, 0, 1, 1, 1, 1, 1, 1}, []int64{2, 7, 2}},
		// both have found nothing: one alone claims
		{[][]api.Op{five, five}, []int{0, 1, 1, 0}, [][]api.Answer{{no(-4)}, {yes(6)}}, []int{0, 1, 1, 0, 0, 1, 0, 1, 1, 1}, []int64{2, 6, 1}},
		{[][]api.Op{{{Kind: 1}}, {{Kind: 2, B: 3}}}, []int{1, 1, 0, 1}, [][]api.Answer{{no(0)}, {yes(3)}}, []int{1, 1, 0, 1}, []int64{2, 3, 0}},
		{[][]api.Op{{{Kind: 1, A: 1}}, {{Kind: 99}}}, nil, [][]api.Answer{{nothing}, {nothing}}, nil, []int64{0, 0, 0}},
	} {
		got := once.Play(1, x.threads, x.schedule, 99)
		if !reflect.DeepEqual(got.Answers, x.answers) || !slices.Equal(got.Order, x.order) || !slices.Equal(got.State, x.state) || got.Stuck {
			t.Errorf("%d: %+v", i, got)
		}
	}
}

// TestPlayWithoutAOnce: an A that is no Once's number: no step, the zero answer, whatever the kind.
func TestPlayWithoutAOnce(t *testing.T) {
	for kind := range 6 {
		for _, a := range []int64{-1, 2, 3, 64, 1 << 32, 1<<32 + 1, 1 << 62, least, greatest} {
			op := api.Op{Kind: kind, A: a, B: 7, C: 7}
			for _, got := range []api.Trace{once.Play(2, [][]api.Op{{op}}, []int{0}, 0), once.Free(2, [][]api.Op{{op}})} {
				if !reflect.DeepEqual(got.Answers, [][]api.Answer{{nothing}}) || len(got.Order) != 0 || got.Stuck || !slices.Equal(got.State, make([]int64, 6)) {
					t.Errorf("%v: %+v", op, got)
				}
			}
		}
	}
}

func TestPlayCells(t *testing.T) {
	for cells, want := range map[int]int64{math.MinInt: 1, -1: 1, 0: 1, 1: 1, 2: 2, 63: 63, 64: 64, 65: 64, math.MaxInt: 64} {
		threads := [][]api.Op{{{Kind: 2, A: want - 1, B: 5}, {Kind: 2, A: want, B: 6}, {Kind: 3, A: want}}}
		for _, got := range []api.Trace{once.Play(cells, threads, nil, 99), once.Free(cells, threads)} {
			state := append(make([]int64, 3*want-3), 2, 5, 0)
			if !slices.Equal(got.State, state) || !reflect.DeepEqual(got.Answers, [][]api.Answer{{yes(5), nothing, nothing}}) {
				t.Errorf("%d: %+v", cells, got)
			}
		}
	}
}

func TestPlayLimits(t *testing.T) {
	many := slices.Repeat([][]api.Op{{{Kind: 4, C: 2000}}}, api.MostThreads+3)
	for _, got := range []api.Trace{once.Play(1, many, []int{66, 64}, api.MostSteps), once.Free(1, many)} {
		if len(got.Answers) != api.MostThreads || got.State[0] != 0 || got.State[2] > api.MostThreads || got.Stuck {
			t.Error(len(got.Answers), got.State)
		}
	}
	for tries, want := range map[int64]int{least: 1, -1: 1, 0: 1, 1: 1, 2: 2, 1 << 32: api.MostTries, 1<<32 + 1: api.MostTries, api.MostTries: api.MostTries, api.MostTries + 1: api.MostTries, greatest: api.MostTries} {
		for kind := 3; kind < 5; kind++ {
			schedule := append([]int{0, 0}, slices.Repeat([]int{1}, 3*api.MostTries)...)
			got := once.Play(1, [][]api.Op{{{Kind: 4}}, {{Kind: kind, C: tries}}}, schedule, 9999)
			if !reflect.DeepEqual(got.Answers, [][]api.Answer{{no(-6)}, {no(-4)}}) || len(got.Order) != 4+2*want {
				t.Error(kind, tries, got.Answers, len(got.Order))
			}
		}
	}
	if got := once.Play(1, nil, []int{0}, 9); len(got.Answers)+len(got.Order) != 0 || got.Stuck || !slices.Equal(got.State, make([]int64, 3)) {
		t.Error(got)
	}
	if got := once.Free(1, nil); len(got.Answers)+len(got.Order) != 0 || !slices.Equal(got.State, make([]int64, 3)) {
		t.Error(got)
	}
}

// TestPlayStuck: what stands at a step when the run is stuck has no answer, and hasn't done that step.
func TestPlayStuck(t *testing.T) {
	for _, x := range []struct {
		op    api.Op
		state [][]int64
	}{
		{api.Op{Kind: 1}, [][]int64{{0, 0, 0}}},
		{api.Op{Kind: 2, B: 9}, [][]int64{{0, 0, 0}, {1, 0, 0}, {1, 9, 0}}},
		{api.Op{Kind: 3, B: 9}, [][]int64{{0, 0, 0}, {0, 0, 0}, {1, 0, 0}, {1, 0, 1}, {1, 0, 1}, {1, 10, 1}}},
		{api.Op{Kind: 4, B: 9}, [][]int64{{0, 0, 0}, {0, 0, 0}, {1, 0, 0}, {1, 0, 1}}},
	} {
		for most, state := range x.state {
			got := once.Play(1, [][]api.Op{{{Kind: 99}, x.op}}, nil, most)
			if !got.Stuck || !reflect.DeepEqual(got.Answers, [][]api.Answer{{nothing}}) || len(got.Order) != most || !slices.Equal(got.State, state) {
				t.Errorf("%v %d: %+v", x.op, most, got)
			}
		}
		got := once.Play(1, [][]api.Op{{x.op}}, nil, len(x.state))
		if got.Stuck || len(got.Answers[0]) != 1 || len(got.Order) != len(x.state) {
			t.Errorf("%v: %+v", x.op, got)
		}
	}
	if got := once.Play(1, [][]api.Op{{{Kind: 1}}}, []int{0}, -5); !got.Stuck || len(got.Order) != 0 {
		t.Error(got)
	}
}

// TestPlayMemory: what is handed in stays as it is, and no answer shares it or another one's.
func TestPlayMemory(t *testing.T) {
	schedule := []int{1, 0, 9, 9}
	threads := [][]api.Op{{{Kind: 2, B: 1}, {Kind: 2, A: 1, B: 9}}, {{Kind: 4, A: 2, B: 1}, {Kind: 3, A: 2, B: 4}}, {{Kind: 99}}}
	kept := [][]api.Op{slices.Clone(threads[0]), slices.Clone(threads[1]), slices.Clone(threads[2])}
	for _, play := range []func() api.Trace{
		func() api.Trace { return once.Play(3, threads[:2], schedule[:2], 99) },
		func() api.Trace { return once.Free(3, threads[:2]) },
	} {
		first := play()
		second := slices.Clone(first.Answers[1])
		order := slices.Clone(first.Order)
		for i := range first.State[:cap(first.State)] {
			first.State[:cap(first.State)][i] = -1
		}
		_ = append(first.Answers[0], slices.Repeat([]api.Answer{no(-5)}, 20)...)
		clear(first.Answers[0])
		if !slices.Equal(schedule, []int{1, 0, 9, 9}) || !reflect.DeepEqual(threads, kept) || !reflect.DeepEqual(first.Answers[1], second) || !slices.Equal(first.Order, order) {
			t.Error(schedule, threads, first)
		}
		if again := play(); !slices.Equal(again.State, []int64{2, 1, 0, 2, 9, 0, 2, 6, 2}) || !reflect.DeepEqual(again.Answers, [][]api.Answer{{yes(1), yes(9)}, {no(-6), yes(6)}}) {
			t.Errorf("%+v", again)
		}
	}
}

// walker is a thread of a plain reading of the chapter, without goroutines: the step at which its operation stands (the maker's own is 8), the tries that are over, and what the maker has made.
type walker struct {
	ops     []api.Op
	answers []api.Answer
	step    int
	tries   int64
	v       int64
}

func (w *walker) ended() bool { return len(w.answers) == len(w.ops) }

func (w *walker) end(a api.Answer) {
	w.answers = append(w.answers, a)
	w.step, w.tries = 1, 0
}

// advance passes over the operations that have no step.
func (w *walker) advance(all []places) {
	for !w.ended() {
		op := w.ops[len(w.answers)]
		if op.Kind >= 1 && op.Kind <= 4 && op.A >= 0 && op.A < int64(len(all)) {
			return
		}
		w.end(nothing)
	}
}

func (w *walker) forward(all []places) {
	op := w.ops[len(w.answers)]
	c := &all[op.A]
	switch op.Kind {
	case 1:
		w.get(c)
	case 2:
		w.set(op, c)
	default:
		w.make(op, c)
	}
	w.advance(all)
}

func (w *walker) get(c *places) {
	switch {
	case w.step == 2:
		w.end(yes(c.value))
	case c.state == 2:
		w.step = 2
	default:
		w.end(nothing)
	}
}

func (w *walker) set(op api.Op, c *places) {
	switch w.step {
	case 1:
		if w.step = 4; c.state == 0 {
			c.state, w.step = 1, 2
		}
	case 2:
		c.value, w.step = op.B, 3
	case 3:
		c.state = 2
		w.end(yes(op.B))
	case 4:
		if w.step = 5; c.state != 2 {
			w.end(nothing)
		}
	case 5:
		w.end(no(c.value))
	}
}

func (w *walker) make(op api.Op, c *places) {
	switch w.step {
	case 1:
		if w.step = 3; c.state == 2 {
			w.step = 2
		}
	case 2:
		w.end(yes(c.value))
	case 3:
		if c.state == 0 {
			c.state, w.step = 1, 4
		} else if w.tries++; w.tries >= op.C || w.tries == api.MostTries {
			w.end(no(-4))
		} else {
			w.step = 1
		}
	case 4:
		c.count++
		if w.step = 8; op.Kind == 4 {
			w.step = 7
		}
	case 8:
		w.v, w.step = op.B+c.count, 5
	case 5:
		c.value, w.step = w.v, 6
	case 6:
		c.state = 2
		w.end(yes(w.v))
	case 7:
		c.state = 0
		w.end(no(-6))
	}
}

func modelPlay(cells int, threads [][]api.Op, schedule []int, most int) api.Trace {
	all := make([]places, min(max(cells, 1), 64))
	var walkers []*walker
	for _, ops := range threads {
		w := &walker{ops: ops, step: 1}
		w.advance(all)
		walkers = append(walkers, w)
	}
	var got api.Trace
	going := func() bool { return slices.ContainsFunc(walkers, func(w *walker) bool { return !w.ended() }) }
	for at := 0; going() && len(got.Order) < most; at++ {
		n := at - len(schedule)
		if n >= 0 {
			n %= len(walkers)
		} else {
			n = schedule[at]
		}
		if n >= 0 && n < len(walkers) && !walkers[n].ended() {
			walkers[n].forward(all)
			got.Order = append(got.Order, n)
		}
	}
	got.Stuck = going()
	for _, w := range walkers {
		got.Answers = append(got.Answers, w.answers)
	}
	for _, c := range all {
		got.State = append(got.State, c.state, c.value, c.count)
	}
	return got
}

// random makes the threads of a run, over few Onces, so that they meet.
func random(dice *rand.Rand, threads, ops, cells int) [][]api.Op {
	between := func(low, high int) int { return low + dice.Intn(high-low+1) }
	all := make([][]api.Op, threads)
	for i := range all {
		for range between(0, ops) {
			all[i] = append(all[i], api.Op{Kind: between(0, 5), A: int64(between(-1, cells) * between(0, 1)), B: int64(between(-3, 4)), C: int64(between(-1, 4))})
		}
	}
	return all
}

func TestPlayAsTheModel(t *testing.T) {
	dice := rand.New(rand.NewSource(1))
	between := func(low, high int) int { return low + dice.Intn(high-low+1) }
	for try := range 20000 {
		cells := between(0, 3)
		threads := random(dice, between(0, 4), 6, max(cells, 1))
		schedule := make([]int, between(0, 30))
		for i := range schedule {
			schedule[i] = between(-1, 4)
		}
		most := between(0, 90)
		got, want := once.Play(cells, threads, schedule, most), modelPlay(cells, threads, schedule, most)
		if outcome(got) != outcome(want) || !slices.Equal(got.Order, want.Order) || got.Stuck != want.Stuck {
			t.Fatalf("%d: %d %v %v %d\n%+v\n%+v", try, cells, threads, schedule, most, got, want)
		}
	}
}

// allSchedules hands on each run that some schedule gives, by the model: each of its steps is every going thread's.
func allSchedules(threads [][]api.Op, schedule []int, see func(schedule []int, run api.Trace)) {
	run := modelPlay(1, threads, schedule, len(schedule))
	if !run.Stuck {
		see(schedule, run)
		return
	}
	for n := range threads {
		if len(run.Answers[n]) < len(threads[n]) {
			allSchedules(threads, append(slices.Clone(schedule), n), see)
		}
	}
}

// meetings are threads whose schedules can all be gone through.
func meetings() [][][]api.Op {
	return [][][]api.Op{
		{{{Kind: 2, B: 7}, {Kind: 1}}, {{Kind: 2, B: 9}, {Kind: 1}}},
		{{{Kind: 3, B: 7, C: 2}, {Kind: 1}}, {{Kind: 3, B: 9, C: 2}}},
		{{{Kind: 4, C: 2}, {Kind: 2, B: 7}}, {{Kind: 3, B: 9, C: 2}}},
		{{{Kind: 4, C: 1}, {Kind: 1}}, {{Kind: 2, B: 7}, {Kind: 2, B: 9}}},
		{{{Kind: 2, B: 7}}, {{Kind: 2, B: 9}}, {{Kind: 1}, {Kind: 1}}},
		{{{Kind: 4}}, {{Kind: 2, B: 7}}, {{Kind: 2, B: 9}}},
		{{{Kind: 3, B: 7}}, {{Kind: 2, B: 9}}, {{Kind: 1}}},
	}
}

// checkOne holds a run over one Once against P3.7.
func checkOne(threads [][]api.Op, run api.Trace) string {
	state, value, firsts, made, begun := run.State[0], run.State[1], 0, 0, int64(0)
	for n, answers := range run.Answers {
		for i, a := range answers {
			op := threads[n][i]
			if (a.OK || op.Kind == 2 && a.N != 0) && (a.N != value || state != 2) {
				return "another number is told"
			}
			if op.Kind == 2 && a.OK {
				firsts++
			}
			if op.Kind == 3 && a.OK {
				made++
			}
			if op.Kind == 4 && a.N == -6 {
				begun++
			}
		}
	}
	if firsts > 1 || firsts == 0 && made == 0 && state != 0 || state == 1 {
		return "not one alone has set it"
	}
	if state == 2 && firsts == 0 {
		begun++
	}
	if run.State[2] != begun {
		return "another count"
	}
	return ""
}

// TestOneAloneSetsIt: under every schedule of some threads, and under many of many, with a Get behind all.
func TestOneAloneSetsIt(t *testing.T) {
	for i, threads := range meetings() {
		runs := 0
		allSchedules(threads, nil, func(schedule []int, _ api.Trace) {
			runs++
			run := once.Play(1, threads, schedule, 999)
			if fault := checkOne(threads, run); fault != "" || run.Stuck || !slices.Equal(run.Order, schedule) {
				t.Fatalf("%d: %s: %v: %+v", i, fault, schedule, run)
			}
		})
		if runs < 50 {
			t.Error(i, "only", runs)
		}
	}
	dice := rand.New(rand.NewSource(3))
	for range 3000 {
		var threads [][]api.Op
		for range 5 {
			var ops []api.Op
			for range 3 {
				ops = append(ops, api.Op{Kind: 1 + dice.Intn(4), B: int64(1 + dice.Intn(90)), C: 2})
			}
			threads = append(threads, ops)
		}
		schedule := make([]int, 60)
		for i := range schedule {
			schedule[i] = dice.Intn(5)
		}
		run := once.Play(1, threads, schedule, 999)
		if fault := checkOne(threads, run); fault != "" || run.Stuck {
			t.Fatalf("%s: %v %v: %+v", fault, threads, schedule, run)
		}
	}
}

// TestTheValueStays: once the state is 2, the state and the value are the same behind each step that comes.
func TestTheValueStays(t *testing.T) {
	dice := rand.New(rand.NewSource(4))
	for range 300 {
		threads := random(dice, 4, 4, 1)
		schedule := make([]int, 40)
		for i := range schedule {
			schedule[i] = dice.Intn(4)
		}
		var made []int64
		for most := range len(schedule) {
			state := once.Play(1, threads, schedule, most).State
			if made != nil && (state[0] != 2 || state[1] != made[1]) {
				t.Fatal(threads, schedule, most, made, state)
			}
			if state[0] == 2 {
				made = state
			}
		}
	}
}

// TestAloneEnds: whatever has gone before, a thread that is let step alone ends its operation within two steps a try and six for the last one.
func TestAloneEnds(t *testing.T) {
	dice := rand.New(rand.NewSource(2))
	for range 3000 {
		var threads [][]api.Op
		for range 3 {
			threads = append(threads, []api.Op{{Kind: 1 + dice.Intn(4), B: 5, C: int64(dice.Intn(4))}})
		}
		alone := dice.Intn(3)
		schedule := make([]int, dice.Intn(9))
		for i := range schedule {
			schedule[i] = dice.Intn(3)
		}
		bound := 2*max(int(threads[alone][0].C)-1, 0) + 6
		before := once.Play(1, threads, schedule, len(schedule))
		rest := slices.Repeat([]int{alone}, bound)
		run := once.Play(1, threads, append(slices.Clone(before.Order), rest...), len(before.Order)+bound)
		if len(run.Answers[alone]) != 1 {
			t.Fatal(threads, schedule, alone, run)
		}
	}
	for _, o := range []*once.Once{fresh(), claimed(), holds(7)} {
		for _, call := range []call{get, set(3), making(4, makes(3)), making(4, giveUp(3))} {
			if !turn.Alone(turn.NewCounter(11), func(s turn.Stepper) { call(o, s) }) {
				t.Error("not ended", at(o))
			}
		}
	}
}

// outcome puts into a text what is answered and left: Free has no order.
func outcome(got api.Trace) string {
	text := ""
	for _, answers := range got.Answers {
		for _, a := range answers {
			text += strconv.FormatBool(a.OK) + strconv.FormatInt(a.N, 10) + " "
		}
		text += "| "
	}
	for _, n := range got.State {
		text += strconv.FormatInt(n, 10) + " "
	}
	return text
}

// TestFreeIsSomeSchedule: what free threads answer and leave is among what all schedules give.
func TestFreeIsSomeSchedule(t *testing.T) {
	for i, threads := range meetings() {
		can := map[string]bool{}
		allSchedules(threads, nil, func(_ []int, run api.Trace) { can[outcome(run)] = true })
		if len(can) < 2 {
			t.Error(i, "all schedules give the same")
		}
		for range 1000 {
			got := once.Free(1, threads)
			if !can[outcome(got)] || len(got.Order) != 0 || got.Stuck {
				t.Fatalf("%d: no schedule gives %+v", i, got)
			}
		}
	}
}

// TestFreeCrowd: many threads over several Onces: each has one number, and a count of all who have begun.
func TestFreeCrowd(t *testing.T) {
	var threads [][]api.Op
	for n := range 16 {
		var ops []api.Op
		for a := range int64(32) {
			ops = append(ops, api.Op{Kind: 4, A: a, C: 2}, api.Op{Kind: 2 + n%2, A: a, B: int64(n) + 100, C: 3}, api.Op{Kind: 4, A: a, C: 2}, api.Op{Kind: 1, A: a})
		}
		threads = append(threads, ops)
	}
	for range 20 {
		got := once.Free(32, threads)
		for a := range 32 {
			one := api.Trace{State: got.State[3*a : 3*a+3]}
			var ops [][]api.Op
			for n := range threads {
				one.Answers = append(one.Answers, got.Answers[n][4*a:4*a+4])
				ops = append(ops, threads[n][4*a:4*a+4])
			}
			if fault := checkOne(ops, one); fault != "" || len(got.State) != 96 {
				t.Fatalf("%d: %s: %+v", a, fault, one)
			}
		}
	}
}
