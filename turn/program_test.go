package turn_test

import (
	"math"
	"math/rand"
	"reflect"
	"slices"
	"strconv"
	"testing"

	"carillon/api"
	"carillon/turn"
)

// told makes answers of the numbers that a thread has told.
func told(numbers ...int64) []api.Answer {
	var answers []api.Answer
	for _, n := range numbers {
		answers = append(answers, api.Answer{OK: true, N: n})
	}
	return answers
}

// TestPlayExamples: the chapter's examples, word for word.
func TestPlayExamples(t *testing.T) {
	program := []turn.Code{{Do: turn.DoLoad, R: 0, A: 0}, {Do: turn.DoSet, R: 1, V: 1}, {Do: turn.DoSum, R: 0, A: 0, B: 1}, {Do: turn.DoStore, R: 0, A: 0}}
	for _, x := range []struct {
		schedule []int
		most     int
		order    []int
		state    int64
		stuck    bool
	}{
		{[]int{0, 1, 0, 1}, 99, []int{0, 1, 0, 1}, 1, false},
		{[]int{0, 0, 1, 1}, 99, []int{0, 0, 1, 1}, 2, false},
		{nil, 99, []int{0, 1, 0, 1}, 1, false},
		{[]int{7, 1, 1, 1, -1}, 99, []int{1, 1, 0, 0}, 2, false},
		{nil, 3, []int{0, 1, 0}, 1, true},
		{[]int{0, 1, 0, 1}, 3, []int{0, 1, 0}, 1, true},
		{nil, 0, nil, 0, true},
		{[]int{0, 1, 0, 1}, 0, nil, 0, true},
	} {
		got := turn.Play([]int64{0}, [][]turn.Code{program, program}, x.schedule, x.most)
		if !slices.Equal(got.Order, x.order) || !slices.Equal(got.State, []int64{x.state}) || got.Stuck != x.stuck || len(got.Answers) != 2 || len(got.Answers[0])+len(got.Answers[1]) != 0 {
			t.Error(x, got)
		}
	}
	got := turn.Play(nil, [][]turn.Code{{{Do: turn.DoEqual, A: 0, B: 0, V: 0}}}, nil, 99)
	if got.Stuck || len(got.Order) != 0 {
		t.Error(got)
	}
	got = turn.Play([]int64{0}, [][]turn.Code{{{Do: turn.DoCompare, R: 0, A: 0, B: 1, V: 9}, {Do: turn.DoTell, R: 0}}}, nil, 99)
	if !reflect.DeepEqual(got, api.Trace{Answers: [][]api.Answer{told(1)}, Order: []int{0}, State: []int64{9}}) {
		t.Error(got)
	}
}

// tellAll tells the four registers.
func tellAll(codes ...turn.Code) []turn.Code {
	for r := range 4 {
		codes = append(codes, turn.Code{Do: turn.DoTell, R: r})
	}
	return codes
}

func TestCodes(t *testing.T) {
	if turn.DoSet != 1 || turn.DoTell != 6 || turn.DoLoad != 7 || turn.DoCompare != 11 {
		t.Error("the numbers of the Dos")
	}
	set := func(r int, v int64) turn.Code { return turn.Code{Do: turn.DoSet, R: r, V: v} }
	for _, x := range []struct {
		name  string
		codes []turn.Code
		told  []int64
		words []int64 // at first 50, 60
		steps int
	}{
		{"none", nil, []int64{0, 0, 0, 0}, []int64{50, 60}, 0},
		{"set", []turn.Code{set(0, 5), set(3, -8)}, []int64{5, 0, 0, -8}, []int64{50, 60}, 0},
		{"registers modulo 4", []turn.Code{set(5, 1), set(-1, 2), set(-4, 3), set(math.MinInt+2, 4)}, []int64{3, 1, 4, 2}, []int64{50, 60}, 0},
		{"move", []turn.Code{set(1, 5), {Do: turn.DoMove, R: 2, A: 1}, {Do: turn.DoMove, R: -1, A: -3}}, []int64{0, 5, 5, 5}, []int64{50, 60}, 0},
		{"sum", []turn.Code{set(1, 5), set(2, 7), {Do: turn.DoSum, R: 0, A: 1, B: 2}, {Do: turn.DoSum, R: 7, A: -2, B: 6}}, []int64{12, 5, 7, 14}, []int64{50, 60}, 0},
		{"sum wraps", []turn.Code{set(1, math.MaxInt64), set(2, 2), {Do: turn.DoSum, R: 0, A: 1, B: 2}, {Do: turn.DoSum, R: 2, A: 2, B: 2}}, []int64{math.MinInt64 + 1, math.MaxInt64, 4, 0}, []int64{50, 60}, 0},
		{"equal", []turn.Code{set(1, 5), set(2, 5), {Do: turn.DoEqual, A: 1, B: 2, V: 4}, set(0, 9), set(3, 1)}, []int64{0, 5, 5, 1}, []int64{50, 60}, 0},
		{"not equal", []turn.Code{set(1, 5), set(2, 6), {Do: turn.DoEqual, A: 1, B: 2, V: 4}, set(0, 9), set(3, 1)}, []int64{9, 5, 6, 1}, []int64{50, 60}, 0},
		{"equal, registers below 0", []turn.Code{set(1, 5), {Do: turn.DoEqual, A: -3, B: 5, V: 3}, set(0, 9), set(3, 1)}, []int64{0, 5, 0, 1}, []int64{50, 60}, 0},
		{"less", []turn.Code{set(1, -5), {Do: turn.DoLess, A: 1, B: 2, V: 3}, set(0, 9), set(3, 1)}, []int64{0, -5, 0, 1}, []int64{50, 60}, 0},
		{"not less", []turn.Code{set(1, 5), {Do: turn.DoLess, A: 1, B: 2, V: 3}, set(0, 9), set(3, 1)}, []int64{9, 5, 0, 1}, []int64{50, 60}, 0},
		{"alike is not less", []turn.Code{{Do: turn.DoLess, A: 1, B: 2, V: 2}, set(0, 9), set(3, 1)}, []int64{9, 0, 0, 1}, []int64{50, 60}, 0},
		// With the four that tell, the program of the next two has 6 codes.
		{"to the last", []turn.Code{set(3, 1), {Do: turn.DoEqual, V: 5}}, []int64{1}, []int64{50, 60}, 0},
		{"to the end", []turn.Code{set(3, 1), {Do: turn.DoEqual, V: 6}}, []int64{}, []int64{50, 60}, 0},
		{"to far behind", []turn.Code{{Do: turn.DoEqual, V: math.MaxInt64}}, []int64{}, []int64{50, 60}, 0},
		{"to below 0", []turn.Code{{Do: turn.DoEqual, V: -1}}, []int64{}, []int64{50, 60}, 0},
		{"to far below 0", []turn.Code{{Do: turn.DoLess, A: 1, B: 2, V: 9}, set(2, 1), {Do: turn.DoLess, A: 1, B: 2, V: math.MinInt64}}, []int64{}, []int64{50, 60}, 0},
		{"2^32 is no number of a code", []turn.Code{{Do: turn.DoEqual, V: 1 << 32}}, []int64{}, []int64{50, 60}, 0},
		{"tell", []turn.Code{{Do: turn.DoTell, R: 2}, set(2, 4), {Do: turn.DoTell, R: 2}, {Do: turn.DoTell, R: -2}}, []int64{0, 4, 4, 0, 0, 4, 0}, []int64{50, 60}, 0},
		{"load", []turn.Code{{Do: turn.DoLoad, R: 1, A: 0}, {Do: turn.DoLoad, R: -2, A: 1}}, []int64{0, 50, 60, 0}, []int64{50, 60}, 2},
		{"store", []turn.Code{set(1, 7), {Do: turn.DoStore, R: 1, A: 1}, {Do: turn.DoStore, R: 6, A: 0}}, []int64{0, 7, 0, 0}, []int64{0, 7}, 2},
		{"add", []turn.Code{{Do: turn.DoAdd, R: 3, A: 0, V: 4}, {Do: turn.DoAdd, R: -4, A: 1, V: -70}}, []int64{-10, 0, 0, 54}, []int64{54, -10}, 2},
		{"add wraps", []turn.Code{{Do: turn.DoAdd, R: 1, A: 0, V: math.MaxInt64}}, []int64{0, math.MinInt64 + 49, 0, 0}, []int64{math.MinInt64 + 49, 60}, 1},
		{"swap", []turn.Code{set(1, 7), {Do: turn.DoSwap, R: 1, A: 1}, {Do: turn.DoSwap, R: 10, A: 0}}, []int64{0, 60, 50, 0}, []int64{0, 7}, 2},
		{"compare, alike", []turn.Code{set(3, 60), {Do: turn.DoCompare, R: 2, A: 1, B: -1, V: 9}}, []int64{0, 0, 1, 60}, []int64{50, 9}, 1},
		{"compare, not alike", []turn.Code{set(3, 61), set(2, 8), {Do: turn.DoCompare, R: 2, A: 1, B: 3, V: 9}}, []int64{0, 0, 0, 61}, []int64{50, 60}, 1},
		{"compare into its own", []turn.Code{set(3, 60), {Do: turn.DoCompare, R: 3, A: 1, B: 3, V: 9}}, []int64{0, 0, 0, 1}, []int64{50, 9}, 1},
		{"no such Do", []turn.Code{{Do: 0, V: 7}, {Do: -1, V: 7}, {Do: 12, V: 7}, {Do: math.MaxInt, V: 7}, {Do: math.MinInt, V: 7}}, []int64{0, 0, 0, 0}, []int64{50, 60}, 0},
		{"no such word", []turn.Code{set(1, 7), {Do: turn.DoLoad, R: 1, A: 2}, {Do: turn.DoStore, R: 1, A: -1}, {Do: turn.DoAdd, R: 1, A: 4, V: 3}, {Do: turn.DoSwap, R: 1, A: -2}, {Do: turn.DoCompare, R: 1, A: 1 << 40, V: 9}, {Do: turn.DoLoad, R: 1, A: math.MinInt}}, []int64{0, 7, 0, 0}, []int64{50, 60}, 0},
	} {
		t.Run(x.name, func(t *testing.T) {
			program := tellAll(x.codes...)
			for _, got := range []api.Trace{turn.Play([]int64{50, 60}, [][]turn.Code{program}, nil, 99), turn.Free([]int64{50, 60}, [][]turn.Code{program})} {
				if !slices.EqualFunc(got.Answers[0], told(x.told...), same) || !slices.Equal(got.State, x.words) || got.Stuck {
					t.Error(got)
				}
			}
			if got := turn.Play([]int64{50, 60}, [][]turn.Code{program}, nil, 99); len(got.Order) != x.steps {
				t.Error(got.Order)
			}
		})
	}
}

func same(a, b api.Answer) bool { return reflect.DeepEqual(a, b) }

func TestMostOwn(t *testing.T) {
	const mostOwn = 4096
	many := func(count int, tail ...turn.Code) []turn.Code {
		return append(slices.Repeat([]turn.Code{{Do: turn.DoTell}}, count), tail...)
	}
	end, step, other := turn.Code{Do: turn.DoTell}, turn.Code{Do: turn.DoLoad}, turn.Code{Do: 99}
	missing := turn.Code{Do: turn.DoLoad, A: 1}
	for i, x := range []struct {
		program     []turn.Code
		told, steps int
	}{
		{many(mostOwn), mostOwn, 0},
		{many(mostOwn + 1), mostOwn, 0},
		{many(mostOwn-1, end), mostOwn, 0},
		{many(mostOwn-1, other, end), mostOwn - 1, 0},
		{many(mostOwn-1, missing, end), mostOwn - 1, 0},
		{many(mostOwn-1, missing, step), mostOwn - 1, 1},
		{many(mostOwn, step, end), mostOwn + 1, 1},
		{many(mostOwn, step, step, end), mostOwn + 1, 2},
		{many(mostOwn, other, step), mostOwn, 0},
		{many(1, append([]turn.Code{step}, many(mostOwn+2)...)...), mostOwn + 1, 1},
		{many(mostOwn, append([]turn.Code{step}, many(mostOwn, step)...)...), 2 * mostOwn, 2},
	} {
		play, free := turn.Play([]int64{5}, [][]turn.Code{x.program}, nil, 99), turn.Free([]int64{5}, [][]turn.Code{x.program})
		if len(play.Answers[0]) != x.told || len(free.Answers[0]) != x.told || len(play.Order) != x.steps || play.Stuck {
			t.Error(i, len(play.Answers[0]), len(free.Answers[0]), play.Order, play.Stuck)
		}
	}
	rounds := turn.Play([]int64{0}, [][]turn.Code{{{Do: turn.DoTell}, {Do: turn.DoEqual, V: 0}}}, nil, 99)
	if len(rounds.Answers[0]) != mostOwn/2 || rounds.Stuck {
		t.Error(len(rounds.Answers[0]))
	}
}

func TestPlayThreads(t *testing.T) {
	add := []turn.Code{{Do: turn.DoAdd, V: 1}, {Do: turn.DoTell}}
	programs := slices.Repeat([][]turn.Code{add}, api.MostThreads+2)
	programs[3] = nil
	programs[api.MostThreads] = []turn.Code{{Do: turn.DoAdd, V: 1000}, {Do: turn.DoTell}}
	play := turn.Play([]int64{0}, programs, []int{63, 64, 65}, 999)
	free := turn.Free([]int64{0}, programs)
	for _, got := range []api.Trace{play, free} {
		if len(got.Answers) != api.MostThreads || len(got.Answers[3]) != 0 || len(got.Answers[63]) != 1 || got.State[0] != api.MostThreads-1 {
			t.Error(len(got.Answers), got.State)
		}
	}
	if len(play.Order) != api.MostThreads-1 || play.Answers[63][0].N != 1 || play.Answers[62][0].N != 63 {
		t.Error(play)
	}
}

func TestPlayMost(t *testing.T) {
	loop := []turn.Code{{Do: turn.DoAdd, V: 1}, {Do: turn.DoEqual, V: 0}}
	for most, want := range map[int]int{-1: 0, 0: 0, 5: 5, api.MostSteps: api.MostSteps, api.MostSteps + 1: api.MostSteps, math.MaxInt: api.MostSteps, math.MinInt: 0} {
		got := turn.Play([]int64{0}, [][]turn.Code{loop}, nil, most)
		if len(got.Order) != want || got.State[0] != int64(want) || !got.Stuck {
			t.Error(most, len(got.Order), got.State, got.Stuck)
		}
	}
}

// TestPlayTellsOfTheStuck: what a thread told stays told, also where it stands at a step for ever.
func TestPlayTellsOfTheStuck(t *testing.T) {
	program := []turn.Code{{Do: turn.DoTell}, {Do: turn.DoAdd, V: 1}, {Do: turn.DoTell}, {Do: turn.DoAdd, V: 1}, {Do: turn.DoTell}}
	got := turn.Play([]int64{0, 4}, [][]turn.Code{program, program}, []int{1, 1}, 3)
	want := api.Trace{Answers: [][]api.Answer{told(0, 3), told(0, 1, 2)}, Order: []int{1, 1, 0}, State: []int64{3, 4}, Stuck: true}
	if !reflect.DeepEqual(got, want) {
		t.Error(got)
	}
}

func TestPlayLeavesItsArguments(t *testing.T) {
	room := []int64{1, 2, 3, 4}
	program := []turn.Code{{Do: turn.DoAdd, V: 10, R: 1}, {Do: turn.DoAdd, V: 10, A: 1}}
	programs, schedule := [][]turn.Code{program, program}, []int{1, 0, 7}
	for _, run := range []func() api.Trace{
		func() api.Trace { return turn.Play(room[:2], programs, schedule, 99) },
		func() api.Trace { return turn.Free(room[:2], programs) },
	} {
		got := run()
		if !slices.Equal(got.State, []int64{21, 22}) {
			t.Error(got.State)
		}
		for i := range got.State[:cap(got.State)] {
			got.State[:cap(got.State)][i] = -9
		}
		if !slices.Equal(room, []int64{1, 2, 3, 4}) || !slices.Equal(schedule, []int{1, 0, 7}) || program[0].V != 10 || len(programs) != 2 {
			t.Error(room, schedule, programs)
		}
	}
	if got := turn.Play(nil, nil, nil, 9); len(got.Answers)+len(got.Order)+len(got.State) != 0 || got.Stuck {
		t.Error(got)
	}
	if got := turn.Free([]int64{7}, nil); len(got.Answers)+len(got.Order) != 0 || !slices.Equal(got.State, []int64{7}) {
		t.Error(got)
	}
}

// TestPlayAnswersAreNew: no two lists of a trace share their room.
func TestPlayAnswersAreNew(t *testing.T) {
	program := tellAll(turn.Code{Do: turn.DoAdd, V: 1})
	for _, got := range []api.Trace{turn.Play([]int64{0}, [][]turn.Code{program, program}, nil, 99), turn.Free([]int64{0}, [][]turn.Code{program, program})} {
		second := slices.Clone(got.Answers[1])
		_ = append(got.Answers[0], slices.Repeat(told(-5), 20)...)
		clear(got.Answers[0])
		if !reflect.DeepEqual(second, got.Answers[1]) {
			t.Error(got)
		}
	}
}

func TestFreeMost(t *testing.T) {
	const mostFree = 65536
	loop := []turn.Code{{Do: turn.DoAdd, V: 1}, {Do: turn.DoEqual, A: 1, V: 3}, {Do: turn.DoTell}, {Do: turn.DoEqual, A: 1, B: 1, V: 0}}
	got := turn.Free([]int64{0, 0}, [][]turn.Code{loop, {{Do: turn.DoAdd, A: 1, V: 7}}, loop})
	if !slices.Equal(got.State, []int64{2 * mostFree, 7}) || len(got.Order) != 0 || got.Stuck {
		t.Error(got.State, len(got.Order), got.Stuck)
	}
	straight := append(slices.Repeat([]turn.Code{{Do: turn.DoAdd, V: 1}}, mostFree), turn.Code{Do: turn.DoTell}, turn.Code{Do: turn.DoLoad}, turn.Code{Do: turn.DoTell})
	got = turn.Free([]int64{0}, [][]turn.Code{straight, straight[1:]})
	if len(got.Answers[0]) != 1 || len(got.Answers[1]) != 2 || got.State[0] != 2*mostFree-1 {
		t.Error(got.Answers, got.State)
	}
}

// TestFreeIsSomeSchedule: what free threads tell and leave is among what all schedules give.
func TestFreeIsSomeSchedule(t *testing.T) {
	program := []turn.Code{{Do: turn.DoLoad}, {Do: turn.DoSet, R: 1, V: 1}, {Do: turn.DoSum, B: 1}, {Do: turn.DoSwap}, {Do: turn.DoTell}, {Do: turn.DoCompare, B: 0, V: 8}, {Do: turn.DoTell}}
	programs := [][]turn.Code{program, program}
	can := map[string]bool{}
	for bits := range 64 {
		var schedule []int
		for i := range 6 {
			schedule = append(schedule, bits>>i&1)
		}
		can[outcome(turn.Play([]int64{0}, programs, schedule, 99))] = true
	}
	for range 500 {
		if got := outcome(turn.Free([]int64{0}, programs)); !can[got] {
			t.Fatal("no schedule gives", got)
		}
	}
}

func outcome(got api.Trace) string {
	text := ""
	for _, answers := range got.Answers {
		for _, a := range answers {
			text += strconv.FormatInt(a.N, 10) + " "
		}
		text += "| "
	}
	return text + strconv.FormatInt(got.State[0], 10)
}

func TestFreeLosesNothing(t *testing.T) {
	var program []turn.Code
	for i := range 2000 {
		program = append(program, turn.Code{Do: turn.DoAdd, A: i % 3, V: int64(i % 5)})
	}
	got := turn.Free(make([]int64, 3), slices.Repeat([][]turn.Code{program}, 8))
	want := turn.Play(make([]int64, 3), slices.Repeat([][]turn.Code{program}, 8), nil, api.MostSteps)
	if !slices.Equal(got.State, want.State) || want.Stuck {
		t.Error(got.State, want.State)
	}
}

// model is a thread of a plain, slow reading of the chapter, without goroutines.
type model struct {
	program []turn.Code
	next    int64
	own     int
	ended   bool
	r       [4]int64
	told    []api.Answer
}

func reg(n int) int { return ((n % 4) + 4) % 4 }

func isStep(c turn.Code, words []int64) bool {
	return slices.Contains([]turn.Do{turn.DoLoad, turn.DoStore, turn.DoAdd, turn.DoSwap, turn.DoCompare}, c.Do) && 0 <= c.A && c.A < len(words)
}

// advance goes up to the next step, or the end.
func (m *model) advance(words []int64) {
	for !m.ended {
		if m.next < 0 || m.next >= int64(len(m.program)) {
			m.ended = true
			return
		}
		c := m.program[m.next]
		if isStep(c, words) {
			return
		}
		if m.own++; m.own > 4096 {
			m.ended = true
			return
		}
		r, a, b := reg(c.R), reg(c.A), reg(c.B)
		m.next++
		if c.Do == turn.DoSet {
			m.r[r] = c.V
		} else if c.Do == turn.DoMove {
			m.r[r] = m.r[a]
		} else if c.Do == turn.DoSum {
			m.r[r] = m.r[a] + m.r[b]
		} else if c.Do == turn.DoEqual && m.r[a] == m.r[b] || c.Do == turn.DoLess && m.r[a] < m.r[b] {
			m.next = c.V
		} else if c.Do == turn.DoTell {
			m.told = append(m.told, api.Answer{OK: true, N: m.r[r]})
		}
	}
}

func (m *model) step(words []int64) {
	c := m.program[m.next]
	m.next++
	m.own = 0
	r, w := &m.r[reg(c.R)], &words[c.A]
	if c.Do == turn.DoLoad {
		*r = *w
	} else if c.Do == turn.DoStore {
		*w = *r
	} else if c.Do == turn.DoAdd {
		*w += c.V
		*r = *w
	} else if c.Do == turn.DoSwap {
		*r, *w = *w, *r
	} else if *w == m.r[reg(c.B)] {
		*w, *r = c.V, 1
	} else {
		*r = 0
	}
	m.advance(words)
}

func modelPlay(words []int64, programs [][]turn.Code, schedule []int, most int) api.Trace {
	words = slices.Clone(words)
	var threads []*model
	for _, p := range programs {
		threads = append(threads, &model{program: p})
		threads[len(threads)-1].advance(words)
	}
	var got api.Trace
	going := func() bool {
		return slices.ContainsFunc(threads, func(m *model) bool { return !m.ended })
	}
	for at := 0; going() && len(got.Order) < most; at++ {
		n := at - len(schedule)
		if n >= 0 {
			n %= len(threads)
		} else {
			n = schedule[at]
		}
		if n >= 0 && n < len(threads) && !threads[n].ended {
			threads[n].step(words)
			got.Order = append(got.Order, n)
		}
	}
	got.Stuck, got.State = going(), words
	for _, m := range threads {
		got.Answers = append(got.Answers, m.told)
	}
	return got
}

func TestPlayAsTheModel(t *testing.T) {
	dice := rand.New(rand.NewSource(1))
	between := func(low, high int) int { return low + dice.Intn(high-low+1) }
	for try := range 20000 {
		words := make([]int64, between(0, 3))
		for i := range words {
			words[i] = int64(between(-2, 2))
		}
		programs := make([][]turn.Code, between(0, 4))
		for i := range programs {
			for range between(0, 9) {
				c := turn.Code{Do: turn.Do(between(-1, 13)), R: between(-5, 6), A: between(-2, 4), B: between(-5, 6), V: int64(between(-1, 8))}
				if between(0, 1) == 0 {
					c.Do, c.A = turn.Do(between(int(turn.DoTell), int(turn.DoCompare))), between(0, 2)
				}
				programs[i] = append(programs[i], c)
			}
		}
		schedule := make([]int, between(0, 12))
		for i := range schedule {
			schedule[i] = between(-1, 4)
		}
		most := between(0, 30)
		got, want := turn.Play(words, programs, schedule, most), modelPlay(words, programs, schedule, most)
		if !slices.Equal(got.Order, want.Order) || !slices.Equal(got.State, want.State) || got.Stuck != want.Stuck || !slices.EqualFunc(got.Answers, want.Answers, sameAnswers) {
			t.Fatal(try, words, programs, schedule, most, got, want)
		}
	}
}

func sameAnswers(a, b []api.Answer) bool { return slices.EqualFunc(a, b, same) }
