package cell_test

import (
	"math/rand"
	"reflect"
	"slices"
	"strconv"
	"testing"

	"carillon/api"
	"carillon/cell"
)

func yes(n int64) api.Answer { return api.Answer{OK: true, N: n} }
func no(n int64) api.Answer  { return api.Answer{N: n} }

var nothing = api.Answer{}

// TestPlayTable: each kind by one thread, one behind the other, over the numbers 5 and -3.
func TestPlayTable(t *testing.T) {
	for _, x := range []struct {
		ops     []api.Op
		answers []api.Answer
		steps   int
		state   []int64
	}{
		{[]api.Op{{Kind: 1}, {Kind: 1, A: 1, B: 9, C: 9}}, []api.Answer{yes(5), yes(-3)}, 2, []int64{5, 0, 5, -3, 0, -3}},
		{[]api.Op{{Kind: 2, A: 1, B: 8}, {Kind: 1, A: 1}}, []api.Answer{yes(0), yes(8)}, 2, []int64{5, 0, 5, 8, 0, -3}},
		{[]api.Op{{Kind: 3, B: 4}, {Kind: 3, B: greatest}}, []api.Answer{yes(9), yes(least + 8)}, 2, []int64{least + 8, 0, 5, -3, 0, -3}},
		{[]api.Op{{Kind: 4, B: 4}, {Kind: 4, B: 6}}, []api.Answer{yes(5), yes(4)}, 2, []int64{6, 0, 5, -3, 0, -3}},
		{[]api.Op{{Kind: 5, B: 5, C: 4}, {Kind: 5, B: 5, C: 6}}, []api.Answer{yes(0), no(0)}, 2, []int64{4, 0, 5, -3, 0, -3}},
		{[]api.Op{{Kind: 6, B: 5}, {Kind: 6, B: 6}, {Kind: 6, B: -9}}, []api.Answer{no(5), yes(6), no(6)}, 4, []int64{6, 0, 5, -3, 0, -3}},
		{[]api.Op{{Kind: 7, A: 1, B: -3}, {Kind: 7, A: 1, B: -4}, {Kind: 7, A: 1, B: 9}}, []api.Answer{no(-3), yes(-4), no(-4)}, 4, []int64{5, 0, 5, -4, 0, -3}},
		{[]api.Op{{Kind: 8, B: 2, C: 7}, {Kind: 8, B: 1, C: 7}, {Kind: 8, B: -9, C: -2}}, []api.Answer{yes(7), no(7), yes(-2)}, 5, []int64{-2, 0, 5, -3, 0, -3}},
		{[]api.Op{{Kind: 9}, {Kind: 10}, {Kind: 10, B: 1}, {Kind: 9}, {Kind: 9, A: 1}}, []api.Answer{no(0), yes(0), no(0), yes(0), no(0)}, 5, []int64{5, 1, 5, -3, 0, -3}},
		{[]api.Op{{Kind: 11, A: 1}, {Kind: 10, A: 1}, {Kind: 11, A: 1}, {Kind: 11, A: 1}, {Kind: 10, A: 1}}, []api.Answer{no(0), yes(0), yes(0), no(0), yes(0)}, 5, []int64{5, 0, 5, -3, 1, -3}},
		{[]api.Op{{Kind: 12}, {Kind: 12, A: 1}}, []api.Answer{yes(5), yes(-3)}, 2, []int64{5, 0, 5, -3, 0, -3}},
		{[]api.Op{{Kind: 13, A: 1, B: 8}, {Kind: 12, A: 1}}, []api.Answer{yes(0), yes(8)}, 2, []int64{5, 0, 5, -3, 0, 8}},
		{[]api.Op{{Kind: 14, B: 4}, {Kind: 14, B: 6}}, []api.Answer{yes(5), yes(4)}, 2, []int64{5, 0, 6, -3, 0, -3}},
		{[]api.Op{{Kind: 15, B: 4}, {Kind: 15, B: greatest}, {Kind: 15, A: 1}}, []api.Answer{yes(9), yes(least + 8), yes(-3)}, 6, []int64{5, 0, least + 8, -3, 0, -3}},
		{[]api.Op{{Kind: 0}, {Kind: -1}, {Kind: 16}, {Kind: 99}, {Kind: least}, {Kind: greatest}}, make([]api.Answer, 6), 0, []int64{5, 0, 5, -3, 0, -3}},
	} {
		got := cell.Play([]int64{5, -3}, [][]api.Op{x.ops}, nil, 99)
		if !reflect.DeepEqual(got.Answers, [][]api.Answer{x.answers}) || len(got.Order) != x.steps || !slices.Equal(got.State, x.state) || got.Stuck {
			t.Errorf("%v: %+v", x.ops, got)
		}
		free := cell.Free([]int64{5, -3}, [][]api.Op{x.ops})
		if !reflect.DeepEqual(free.Answers, got.Answers) || !slices.Equal(free.State, got.State) || len(free.Order) != 0 || free.Stuck {
			t.Errorf("%v, free: %+v", x.ops, free)
		}
	}
}

// TestPlayWithoutAPlace: an A that names none: no step, the zero answer, whatever the kind.
func TestPlayWithoutAPlace(t *testing.T) {
	for kind := range 17 {
		for _, a := range []int64{-1, 2, 3, 1 << 16, 1 << 32, 1<<32 + 1, 1 << 62, least, greatest} {
			op := api.Op{Kind: kind, A: a, B: 7, C: 7}
			for _, got := range []api.Trace{cell.Play([]int64{5, 6}, [][]api.Op{{op}}, []int{0}, 0), cell.Free([]int64{5, 6}, [][]api.Op{{op}})} {
				if !reflect.DeepEqual(got.Answers, [][]api.Answer{{nothing}}) || len(got.Order) != 0 || got.Stuck || !slices.Equal(got.State, []int64{5, 0, 5, 6, 0, 6}) {
					t.Errorf("%v: %+v", op, got)
				}
			}
		}
		got := cell.Play(nil, [][]api.Op{{{Kind: kind}}}, nil, 0)
		if !reflect.DeepEqual(got.Answers, [][]api.Answer{{nothing}}) || len(got.State)+len(got.Order) != 0 || got.Stuck {
			t.Errorf("no start, %d: %+v", kind, got)
		}
	}
}

func TestPlayExamples(t *testing.T) {
	addLoad, raise := []api.Op{{Kind: 3, B: 1}, {Kind: 1}}, []api.Op{{Kind: 15, B: 1}}
	for i, x := range []struct {
		threads  [][]api.Op
		schedule []int
		answers  [][]api.Answer
		order    []int
		state    []int64
	}{
		{[][]api.Op{addLoad, addLoad}, []int{0, 1, 1, 0}, [][]api.Answer{{yes(6), yes(7)}, {yes(7), yes(7)}}, []int{0, 1, 1, 0}, []int64{7, 0, 5}},
		{[][]api.Op{{{Kind: 6, B: 9}}, {{Kind: 6, B: 7}}}, []int{0, 1, 1, 0}, [][]api.Answer{{yes(9)}, {yes(7)}}, []int{0, 1, 1, 0, 0, 0}, []int64{9, 0, 5}},
		{[][]api.Op{{{Kind: 6, B: 7}}, {{Kind: 6, B: 9}}}, []int{0, 1, 1, 0}, [][]api.Answer{{no(9)}, {yes(9)}}, []int{0, 1, 1, 0, 0}, []int64{9, 0, 5}},
		{[][]api.Op{raise, raise}, []int{0, 1, 0, 1}, [][]api.Answer{{yes(6)}, {nothing}}, []int{0, 1, 0, 1}, []int64{5, 0, 6}},
		{[][]api.Op{raise, raise}, []int{0, 0, 1, 1}, [][]api.Answer{{yes(6)}, {yes(7)}}, []int{0, 0, 1, 1}, []int64{5, 0, 7}},
		{[][]api.Op{raise, {{Kind: 12}, {Kind: 13, B: 5}}}, []int{0, 1, 1, 0}, [][]api.Answer{{nothing}, {yes(5), yes(0)}}, []int{0, 1, 1, 0}, []int64{5, 0, 5}},
		{[][]api.Op{raise, {{Kind: 12}, {Kind: 14, B: 5}}}, []int{0, 1, 1, 0}, [][]api.Answer{{nothing}, {yes(5), yes(5)}}, []int{0, 1, 1, 0}, []int64{5, 0, 5}},
		{[][]api.Op{raise, {{Kind: 13, B: 5}}}, []int{1, 0, 0}, [][]api.Answer{{yes(6)}, {yes(0)}}, []int{1, 0, 0}, []int64{5, 0, 6}},
		{[][]api.Op{{{Kind: 8, B: 1, C: 5}}, {{Kind: 99}, {Kind: 1, A: 1}}}, nil, [][]api.Answer{{no(5)}, {nothing, nothing}}, []int{0}, []int64{5, 0, 5}},
		{[][]api.Op{{{Kind: 8, B: 3, C: 9}}, {{Kind: 8, B: 3, C: 9}}}, nil, [][]api.Answer{{yes(8)}, {no(8)}}, []int{0, 1, 0, 1, 1}, []int64{8, 0, 5}},
		{[][]api.Op{{{Kind: 10}}, {{Kind: 10}, {Kind: 11}}}, []int{1, 0}, [][]api.Answer{{no(0)}, {yes(0), yes(0)}}, []int{1, 0, 1}, []int64{5, 0, 5}},
	} {
		got := cell.Play([]int64{5}, x.threads, x.schedule, 99)
		if !reflect.DeepEqual(got.Answers, x.answers) || !slices.Equal(got.Order, x.order) || !slices.Equal(got.State, x.state) || got.Stuck {
			t.Errorf("%d: %+v", i, got)
		}
	}
}

// TestPlayStuck: what stands at a step when the run is stuck has no answer, and hasn't done that step.
func TestPlayStuck(t *testing.T) {
	for i, x := range []struct {
		op    api.Op
		most  int
		state []int64
	}{
		{api.Op{Kind: 2, B: 9}, 0, []int64{5, 0, 5}}, {api.Op{Kind: 3, B: 9}, -1, []int64{5, 0, 5}}, {api.Op{Kind: 6, B: 9}, 1, []int64{5, 0, 5}}, {api.Op{Kind: 8, B: 1, C: 9}, 1, []int64{5, 0, 5}},
		{api.Op{Kind: 10}, 0, []int64{5, 0, 5}}, {api.Op{Kind: 13, B: 9}, 0, []int64{5, 0, 5}}, {api.Op{Kind: 15, B: 9}, 1, []int64{5, 0, 5}},
	} {
		got := cell.Play([]int64{5}, [][]api.Op{{x.op}}, nil, x.most)
		if !got.Stuck || len(got.Answers) != 1 || len(got.Answers[0]) != 0 || len(got.Order) != max(x.most, 0) || !slices.Equal(got.State, x.state) {
			t.Errorf("%d: %+v", i, got)
		}
	}
	got := cell.Play([]int64{5}, [][]api.Op{{{Kind: 10}, {Kind: 15, B: 1}}, {{Kind: 3, B: 1}}}, []int{0, 0, 1}, 3)
	if !got.Stuck || !reflect.DeepEqual(got.Answers, [][]api.Answer{{yes(0)}, {yes(6)}}) || !slices.Equal(got.State, []int64{6, 1, 5}) {
		t.Errorf("%+v", got)
	}
}

func TestPlayLimits(t *testing.T) {
	start := make([]int64, api.MostSize+2)
	for i := range start {
		start[i] = int64(i) + 1
	}
	ops := []api.Op{{Kind: 3, A: api.MostSize - 1, B: 1}, {Kind: 3, A: api.MostSize, B: 1}, {Kind: 15, A: api.MostSize, B: 1}, {Kind: 10, A: api.MostSize + 1}, {Kind: 15, A: api.MostSize - 1, B: 2}}
	for _, got := range []api.Trace{cell.Play(start, [][]api.Op{ops}, nil, 99), cell.Free(start, [][]api.Op{ops})} {
		if !reflect.DeepEqual(got.Answers, [][]api.Answer{{yes(api.MostSize + 1), nothing, nothing, nothing, yes(api.MostSize + 2)}}) {
			t.Error(got.Answers)
		}
		if len(got.State) != 3*api.MostSize || !slices.Equal(got.State[:6], []int64{1, 0, 1, 2, 0, 2}) || !slices.Equal(got.State[3*api.MostSize-3:], []int64{api.MostSize + 1, 0, api.MostSize + 2}) {
			t.Error(len(got.State))
		}
	}
	many := slices.Repeat([][]api.Op{{{Kind: 3, B: 1}}}, api.MostThreads+3)
	for _, got := range []api.Trace{cell.Play([]int64{0}, many, []int{66, 64}, 999), cell.Free([]int64{0}, many)} {
		if len(got.Answers) != api.MostThreads || !slices.Equal(got.State, []int64{api.MostThreads, 0, 0}) {
			t.Error(len(got.Answers), got.State)
		}
	}
	if got := cell.Play(nil, nil, nil, 9); len(got.Answers)+len(got.Order)+len(got.State) != 0 || got.Stuck {
		t.Error(got)
	}
	if got := cell.Free([]int64{7}, nil); len(got.Answers)+len(got.Order) != 0 || !slices.Equal(got.State, []int64{7, 0, 7}) {
		t.Error(got)
	}
}

// TestPlayMemory: what is handed in stays as it is, and no answer shares it or another one's.
func TestPlayMemory(t *testing.T) {
	room := []int64{5, 6, 77, 78}
	schedule := []int{1, 0, 9, 9}
	threads := [][]api.Op{{{Kind: 3, B: 1}, {Kind: 2, A: 1, B: 9}}, {{Kind: 15, A: 1, B: 1}, {Kind: 10}}}
	for _, play := range []func() api.Trace{
		func() api.Trace { return cell.Play(room[:2], threads, schedule[:2], 99) },
		func() api.Trace { return cell.Free(room[:2], threads) },
	} {
		first := play()
		second := slices.Clone(first.Answers[1])
		order := slices.Clone(first.Order)
		for i := range first.State[:cap(first.State)] {
			first.State[:cap(first.State)][i] = -1
		}
		_ = append(first.Answers[0], slices.Repeat([]api.Answer{no(-5)}, 20)...)
		clear(first.Answers[0])
		if !slices.Equal(room, []int64{5, 6, 77, 78}) || !slices.Equal(schedule, []int{1, 0, 9, 9}) || !reflect.DeepEqual(first.Answers[1], second) || !slices.Equal(first.Order, order) {
			t.Error(room, schedule, first)
		}
		if again := play(); !slices.Equal(again.State, []int64{6, 1, 5, 9, 0, 7}) || !reflect.DeepEqual(again.Answers, [][]api.Answer{{yes(6), yes(0)}, {yes(7), yes(0)}}) {
			t.Errorf("%+v", again)
		}
	}
}

// held is a plain trio, and how often something was laid in its box.
type held struct{ word, flag, box, laid int64 }

// walker is a thread of a plain reading of the chapter, without goroutines: the step at which its operation stands, and what the first one has found.
type walker struct {
	ops     []api.Op
	answers []api.Answer
	second  bool
	x, laid int64
}

func (w *walker) ended() bool { return len(w.answers) == len(w.ops) }

func (w *walker) end(ok bool, n int64) {
	w.answers = append(w.answers, api.Answer{OK: ok, N: n})
	w.second = false
}

// advance passes over the operations that have no step.
func (w *walker) advance(all []held) {
	for !w.ended() {
		op := w.ops[len(w.answers)]
		if op.Kind >= 1 && op.Kind <= 15 && op.A >= 0 && op.A < int64(len(all)) {
			return
		}
		w.end(false, 0)
	}
}

func (w *walker) step(all []held) {
	op := w.ops[len(w.answers)]
	c := &all[op.A]
	switch op.Kind {
	case 1:
		w.end(true, c.word)
	case 2:
		c.word = op.B
		w.end(true, 0)
	case 3:
		c.word += op.B
		w.end(true, c.word)
	case 4:
		old := c.word
		c.word = op.B
		w.end(true, old)
	case 5:
		ok := c.word == op.B
		if ok {
			c.word = op.C
		}
		w.end(ok, 0)
	case 6, 7, 8:
		w.loop(op, c)
	case 9:
		w.end(c.flag == 1, 0)
	case 10:
		ok := c.flag == 0
		c.flag = 1
		w.end(ok, 0)
	case 11:
		ok := c.flag == 1
		c.flag = 0
		w.end(ok, 0)
	case 12:
		w.end(true, c.box)
	case 13:
		c.box, c.laid = op.B, c.laid+1
		w.end(true, 0)
	case 14:
		old := c.box
		c.box, c.laid = op.B, c.laid+1
		w.end(true, old)
	case 15:
		w.twice(op, c)
	}
	w.advance(all)
}

// loop is the kinds 6 to 8, over numbers that are far from wrapping round.
func (w *walker) loop(op api.Op, c *held) {
	want := op.B
	if op.Kind == 8 {
		want += w.x
	}
	if w.second {
		if w.second = false; c.word == w.x {
			c.word = want
			w.end(true, want)
		}
		return
	}
	w.x, w.second = c.word, true
	if op.Kind == 6 && w.x >= op.B || op.Kind == 7 && w.x <= op.B || op.Kind == 8 && w.x+op.B > op.C {
		w.end(false, w.x)
	}
}

func (w *walker) twice(op api.Op, c *held) {
	if !w.second {
		w.x, w.laid, w.second = c.box, c.laid, true
	} else if c.laid != w.laid {
		w.end(false, 0)
	} else {
		c.box, c.laid = w.x+op.B, c.laid+1
		w.end(true, w.x+op.B)
	}
}

func modelPlay(start []int64, threads [][]api.Op, schedule []int, most int) api.Trace {
	var all []held
	for _, v := range start {
		all = append(all, held{word: v, box: v})
	}
	var walkers []*walker
	for _, ops := range threads {
		walkers = append(walkers, &walker{ops: ops})
		walkers[len(walkers)-1].advance(all)
	}
	var got api.Trace
	going := func() bool { return slices.ContainsFunc(walkers, func(w *walker) bool { return !w.ended() }) }
	for at := 0; going() && len(got.Order) < most; at++ {
		n := at - len(schedule)
		if n >= 0 {
			n %= len(walkers)
		} else {
			n = schedule[at]
		}
		if n >= 0 && n < len(walkers) && !walkers[n].ended() {
			walkers[n].step(all)
			got.Order = append(got.Order, n)
		}
	}
	got.Stuck = going()
	for _, w := range walkers {
		got.Answers = append(got.Answers, w.answers)
	}
	for _, c := range all {
		got.State = append(got.State, c.word, c.flag, c.box)
	}
	return got
}

// random makes the threads of a run, of small numbers, so that they meet.
func random(dice *rand.Rand, threads, ops, places int) [][]api.Op {
	between := func(low, high int) int { return low + dice.Intn(high-low+1) }
	all := make([][]api.Op, threads)
	for i := range all {
		for range between(0, ops) {
			all[i] = append(all[i], api.Op{Kind: between(0, 16), A: int64(between(-1, places) * between(0, 1)), B: int64(between(-3, 4)), C: int64(between(-3, 9))})
		}
	}
	return all
}

func sameTrace(a, b api.Trace) bool {
	return slices.Equal(a.Order, b.Order) && slices.Equal(a.State, b.State) && a.Stuck == b.Stuck && slices.EqualFunc(a.Answers, b.Answers, sameAnswers)
}

func sameAnswers(a, b []api.Answer) bool {
	return slices.EqualFunc(a, b, func(a, b api.Answer) bool { return reflect.DeepEqual(a, b) })
}

func TestPlayAsTheModel(t *testing.T) {
	dice := rand.New(rand.NewSource(1))
	between := func(low, high int) int { return low + dice.Intn(high-low+1) }
	for try := range 20000 {
		start := make([]int64, between(0, 2))
		for i := range start {
			start[i] = int64(between(-2, 5))
		}
		threads := random(dice, between(0, 4), 6, len(start))
		schedule := make([]int, between(0, 20))
		for i := range schedule {
			schedule[i] = between(-1, 4)
		}
		most := between(0, 60)
		got, want := cell.Play(start, threads, schedule, most), modelPlay(start, threads, schedule, most)
		if !sameTrace(got, want) {
			t.Fatalf("%d: %v %v %v %d\n%+v\n%+v", try, start, threads, schedule, most, got, want)
		}
	}
}

// TestAloneEnds: whatever has gone before, a thread that is let step alone ends each of the calls within three steps: one that finds something changed, and two as from the beginning.
func TestAloneEnds(t *testing.T) {
	dice := rand.New(rand.NewSource(2))
	kinds := []int{6, 7, 8, 15}
	for range 3000 {
		var threads [][]api.Op
		for range 3 {
			threads = append(threads, []api.Op{{Kind: kinds[dice.Intn(4)], B: int64(dice.Intn(9) - 4), C: 9}})
		}
		schedule := make([]int, dice.Intn(8))
		for i := range schedule {
			schedule[i] = dice.Intn(3)
		}
		alone := dice.Intn(3)
		before := 0
		for _, n := range schedule {
			if n == alone {
				before++
			}
		}
		got := cell.Play([]int64{0}, threads, slices.Concat(schedule, slices.Repeat([]int{alone}, 3)), 99)
		done := 0
		for _, n := range got.Order {
			if n == alone {
				done++
			}
		}
		if done > before+3 || got.Stuck {
			t.Fatal(threads, schedule, alone, got)
		}
	}
}

// told puts an outcome into one text: Free has no order.
func told(got api.Trace) string {
	text := ""
	for _, answers := range got.Answers {
		for _, a := range answers {
			text += strconv.FormatBool(a.OK) + strconv.FormatInt(a.N, 10) + " "
		}
		text += "| "
	}
	for _, n := range got.State {
		text += strconv.FormatInt(n, 10) + " "
	}
	return text
}

// TestFreeIsSomeSchedule: what free threads answer and leave is among what all schedules give.
func TestFreeIsSomeSchedule(t *testing.T) {
	for _, ops := range [][]api.Op{
		{{Kind: 6, B: 7}, {Kind: 15, B: 1}, {Kind: 7, B: 6}},
		{{Kind: 8, B: 2, C: 8}, {Kind: 10}, {Kind: 14, B: 9}, {Kind: 11}, {Kind: 8, B: 2, C: 8}},
		{{Kind: 1}, {Kind: 3, B: 1}, {Kind: 5, B: 6, C: 9}, {Kind: 4, B: 2}, {Kind: 12}, {Kind: 13, B: 1}},
	} {
		threads := [][]api.Op{ops, ops}
		can := map[string]bool{}
		for bits := range 1 << 14 {
			var schedule []int
			for i := range 14 {
				schedule = append(schedule, bits>>i&1)
			}
			run := modelPlay([]int64{5}, threads, schedule, 999)
			if len(run.Order) > len(schedule) {
				t.Fatal("these are not all the schedules", ops)
			}
			can[told(run)] = true
		}
		for range 500 {
			if got := told(cell.Free([]int64{5}, threads)); !can[got] {
				t.Fatal("no schedule gives", got)
			}
		}
	}
}

// TestFreeLosesNothing: of many threads the sums are what their answers say.
func TestFreeLosesNothing(t *testing.T) {
	var ops []api.Op
	for range 1000 {
		ops = append(ops, api.Op{Kind: 3, B: 1}, api.Op{Kind: 8, A: 1, B: 2, C: 3000}, api.Op{Kind: 15, B: 1}, api.Op{Kind: 10}, api.Op{Kind: 11})
	}
	got := cell.Free([]int64{0, 0}, slices.Repeat([][]api.Op{ops}, crowd))
	var bumps, raises, flags int64
	for _, answers := range got.Answers {
		for i, a := range answers {
			if !a.OK {
				continue
			}
			switch ops[i].Kind {
			case 8:
				bumps++
			case 10:
				flags++
			case 11:
				flags--
			case 15:
				raises++
			}
		}
	}
	if !slices.Equal(got.State, []int64{crowd * 1000, 0, raises, 3000, 0, 0}) || bumps != 1500 || flags != 0 || raises == 0 {
		t.Error(got.State, bumps, flags, raises)
	}
}
