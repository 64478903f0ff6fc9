package seqlock_test

import (
	"fmt"
	"math"
	"slices"
	"testing"

	"carillon/api"
	"carillon/seqlock"
	"carillon/turn"
)

const crowd = 8

type call = func(l *seqlock.Lock, s turn.Stepper) api.Answer

func write(tries int, values ...int64) call {
	return func(l *seqlock.Lock, s turn.Stepper) api.Answer {
		return api.Answer{OK: l.Write(s, tries, values...)}
	}
}

func add(tries int, values ...int64) call {
	return func(l *seqlock.Lock, s turn.Stepper) api.Answer {
		return api.Answer{OK: l.Add(s, tries, values...)}
	}
}

func read(tries int) call {
	return func(l *seqlock.Lock, s turn.Stepper) api.Answer {
		words, ok := l.Read(s, tries)
		return api.Answer{OK: ok, List: words}
	}
}

func raw(l *seqlock.Lock, s turn.Stepper) api.Answer { return api.Answer{List: l.Raw(s)} }

func newer(version int64) call {
	return func(l *seqlock.Lock, s turn.Stepper) api.Answer {
		n, ok := l.Newer(s, version)
		return api.Answer{OK: ok, N: n}
	}
}

// half does so many of a call's steps, and is ended there.
func half(do call, steps int) call {
	return func(l *seqlock.Lock, _ turn.Stepper) api.Answer {
		turn.Alone(turn.NewCounter(steps), func(s turn.Stepper) { do(l, s) })
		return nothing
	}
}

// all does one behind the other.
func all(calls ...call) call {
	return func(l *seqlock.Lock, s turn.Stepper) api.Answer {
		for _, do := range calls {
			do(l, s)
		}
		return nothing
	}
}

func alike(a, b api.Answer) bool {
	return a.OK == b.OK && a.N == b.N && slices.Equal(a.List, b.List)
}

// look is all that is to be seen of a lock without a step: the version, and then the words.
func look(l *seqlock.Lock) []int64 { return append([]int64{l.Version()}, l.Values()...) }

// held is a lock whose version a Write has left odd.
func held(values ...int64) *seqlock.Lock {
	l := seqlock.New(values...)
	half(write(1), 2)(l, nil)
	return l
}

// powers is a number for each of n words.
func powers(n int) []int64 {
	var all []int64
	for i := range n {
		all = append(all, 1<<i)
	}
	return all
}

// fitted is values for n words, of fewer 0 behind them.
func fitted(values []int64, n int) []int64 {
	all := make([]int64, n)
	copy(all, values)
	return all
}

func sizes() []int { return []int{1, 2, 3, 4, 15, 16} }

// tries are numbers of tries, and what they count as.
func tries() map[int]int {
	return map[int]int{
		math.MinInt: 1, -1 << 32: 1, -1 << 31: 1, -1: 1, 0: 1, 1: 1, 2: 2, 3: 3, 1023: 1023, 1024: 1024,
		1025: 1024, 1 << 20: 1024, 1 << 32: 1024, 1<<32 + 1: 1024, math.MaxInt: 1024,
	}
}

// check holds a call's answer, its steps, when it is alone, and what it leaves against these.
func check(t *testing.T, l *seqlock.Lock, name string, do call, answer api.Answer, steps int, after ...int64) {
	t.Helper()
	before, counter := look(l), turn.NewCounter(api.MostSteps)
	if got := do(l, counter); !alike(got, answer) || counter.Steps() != steps || !slices.Equal(look(l), after) {
		t.Errorf("%s of %v: %+v in %d steps, leaves %v; want %+v in %d, %v", name, before, got, counter.Steps(), look(l), answer, steps, after)
	}
}

// TestNew is P8.1: of none one word, of too many the first ones, and what is handed in is not kept.
func TestNew(t *testing.T) {
	for n := range 70 {
		values := powers(n)
		want := values
		if n == 0 {
			want = []int64{0}
		}
		want = slices.Clone(want[:min(len(want), 16)])
		l := seqlock.New(values...)
		for i := range values {
			values[i] = -5
		}
		for range 2 {
			if l.Len() != len(want) || l.Version() != 0 || !slices.Equal(l.Values(), want) {
				t.Error(n, l.Len(), look(l))
			}
		}
		other := seqlock.New(want...)
		l.Write(nil, 1, slices.Repeat([]int64{7}, 16)...)
		if !slices.Equal(other.Values(), want) || other.Version() != 0 || l.Len() != len(want) {
			t.Error(n, "two locks share their words, or the number of words has changed")
		}
	}
	if l := seqlock.New(math.MinInt64, -1, 0, math.MaxInt64); !slices.Equal(look(l), []int64{0, math.MinInt64, -1, 0, math.MaxInt64}) {
		t.Error(look(l))
	}
	if seqlock.MostWords != 16 {
		t.Error(seqlock.MostWords)
	}
}

// TestWrite is P8.2 of a thread that is alone, of as many values as words, of fewer and of more.
func TestWrite(t *testing.T) {
	for _, n := range sizes() {
		l, version := seqlock.New(powers(n)...), int64(0)
		for count := range n + 20 {
			for _, times := range []int64{3, -1} {
				values := make([]int64, count, count+2)
				for i := range values {
					values[i] = times * int64(i+count)
				}
				version += 2
				check(t, l, fmt.Sprint("Write of ", count), write(1, values...), yes(0), n+3, append([]int64{version}, fitted(values, n)...)...)
			}
		}
	}
	check(t, seqlock.New(1, 2, 3), "Write of the greatest", write(1, math.MaxInt64, math.MinInt64), yes(0), 6, 2, math.MaxInt64, math.MinInt64, 0)
}

// TestAdd is P8.3 of a thread that is alone: of fewer values 0 is added; sums wrap around.
func TestAdd(t *testing.T) {
	for _, n := range sizes() {
		l, words, version := seqlock.New(powers(n)...), powers(n), int64(0)
		for count := range n + 20 {
			values := make([]int64, count, count+2)
			for i := range values {
				values[i] = int64(5*i - count)
			}
			for i, v := range fitted(values, n) {
				words[i] += v
			}
			version += 2
			check(t, l, fmt.Sprint("Add of ", count), add(1, values...), yes(0), n+3, append([]int64{version}, words...)...)
		}
	}
	check(t, seqlock.New(math.MaxInt64, math.MinInt64, -1), "Add", add(1, 1, -1, math.MinInt64), yes(0), 6, 2, math.MinInt64, math.MaxInt64, math.MaxInt64)
}

// TestReadRawNewer is P8.4 to P8.6 of a thread that is alone.
func TestReadRawNewer(t *testing.T) {
	for _, n := range sizes() {
		l, words := seqlock.New(powers(n)...), powers(n)
		for writes := range int64(4) {
			if writes > 0 {
				words = slices.Repeat([]int64{-writes}, n)
				l.Write(nil, 1, words...)
			}
			state := append([]int64{2 * writes}, words...)
			check(t, l, "Read", read(1), list(true, words...), n+2, state...)
			check(t, l, "Read again", read(9), list(true, words...), n+2, state...)
			check(t, l, "Raw", raw, list(false, words...), n, state...)
			checkNewer(t, l, state)
		}
	}
	for _, n := range sizes() {
		l, state := held(powers(n)...), append([]int64{1}, powers(n)...)
		check(t, l, "Read while it is odd", read(1), nothing, 1, state...)
		check(t, l, "Raw while it is odd", raw, list(false, powers(n)...), n, state...)
		checkNewer(t, l, state)
	}
}

// checkNewer holds Newer against the version that stands there.
func checkNewer(t *testing.T, l *seqlock.Lock, state []int64) {
	t.Helper()
	now := state[0]
	for _, known := range []int64{math.MinInt64, -1 << 32, -2, -1, 0, 1, now - 2, now - 1, now, now + 1, now + 2, 1 << 32, math.MaxInt64} {
		check(t, l, fmt.Sprint("Newer than ", known), newer(known), api.Answer{OK: now > known, N: now}, 1, state...)
	}
}

// TestTriesWhileOdd: each try fails at S1, and there are as many as are asked for, within their bounds.
func TestTriesWhileOdd(t *testing.T) {
	for asked, counted := range tries() {
		l := held(3, 5)
		check(t, l, fmt.Sprint("Write of tries ", asked), write(asked, 9, 9), nothing, counted, 1, 3, 5)
		check(t, l, fmt.Sprint("Add of tries ", asked), add(asked, 9, 9), nothing, counted, 1, 3, 5)
		check(t, l, fmt.Sprint("Read of tries ", asked), read(asked), nothing, counted, 1, 3, 5)
	}
}

// busy lets another one write ahead of so many steps, each so far behind the one before.
func busy(l *seqlock.Lock, first, every, times int) *watcher {
	w := &watcher{lock: l, at: map[int]func(){}}
	for i := range times {
		w.at[first+i*every] = func() { l.Add(nil, 1, 100, 100) }
	}
	return w
}

// TestTriesThatFail: each try fails at S2 of a Write or an Add, or at a Read's last step, up to the last one; or one more would have been done.
func TestTriesThatFail(t *testing.T) {
	for asked, counted := range tries() {
		for fail := counted - 1; fail <= counted; fail++ {
			sum := int64(100 * fail)
			for _, x := range []struct {
				name     string
				call     call
				first    int
				fails    int // steps of a try that fails
				does     int // and of one that doesn't
				answer   api.Answer
				done     []int64
				versions int64
			}{
				{"Write", write(asked, 7, 9), 2, 2, 5, yes(0), []int64{7, 9}, 2},
				{"Add", add(asked, 7, 9), 2, 2, 5, yes(0), []int64{sum + 10, sum + 14}, 2},
				{"Read", read(asked), 2, 4, 4, list(true, sum+3, sum+5), []int64{sum + 3, sum + 5}, 0},
				{"Read, late", read(asked), 4, 4, 4, list(true, sum+3, sum+5), []int64{sum + 3, sum + 5}, 0},
			} {
				steps, after := x.fails*fail+x.does, append([]int64{2*int64(fail) + x.versions}, x.done...)
				if fail == counted {
					x.answer, steps, after = nothing, x.fails*fail, []int64{2 * int64(fail), sum + 3, sum + 5}
				}
				l := seqlock.New(3, 5)
				w := busy(l, x.first, x.fails, fail)
				if got := x.call(l, w); !alike(got, x.answer) || len(w.log) != steps || !slices.Equal(look(l), after) {
					t.Error(x.name, asked, fail, got, len(w.log), look(l))
				}
			}
		}
	}
}

// TestMemory: what is handed in stays as it is, its spare room too; no answer shares memory with another one, or with the lock.
func TestMemory(t *testing.T) {
	room := []int64{1, 2, 77, 78}
	l := seqlock.New(room[:2]...)
	l.Write(nil, 1, room[:1]...)
	l.Add(nil, 1, room[:3]...)
	if !slices.Equal(room, []int64{1, 2, 77, 78}) {
		t.Error(room)
	}
	l.Write(nil, 1, room[:2]...)
	room[0] = 50
	first, ok := l.Read(nil, 1)
	for i, words := range [][]int64{l.Values(), l.Values(), l.Raw(nil), l.Raw(nil), first} {
		if !ok || !slices.Equal(words, []int64{1, 2}) {
			t.Error(i, words)
		}
		whole := words[:cap(words)]
		for k := range whole {
			whole[k] = -1
		}
	}
	if !slices.Equal(look(l), []int64{6, 1, 2}) {
		t.Error(look(l))
	}
	words := l.Values()
	l.Write(nil, 1, 8, 9)
	if !slices.Equal(words, []int64{1, 2}) {
		t.Error("an answer changes with the lock", words)
	}
}

// watcher logs ahead of each step what is to be seen by then; at some of them something comes between behind the look.
type watcher struct {
	lock *seqlock.Lock
	log  [][]int64
	at   map[int]func()
}

func (w *watcher) Step() {
	w.log = append(w.log, look(w.lock))
	if f := w.at[len(w.log)]; f != nil {
		f()
	}
}

// TestStepsInOrder: what is to be seen ahead of each step, and behind the last: Step is called right ahead of it, and without a Stepper the answers are the same.
func TestStepsInOrder(t *testing.T) {
	fresh, odd := []int64{0, 3, 5, 7}, []int64{1, 3, 5, 7}
	for _, x := range []struct {
		name   string
		lock   func() *seqlock.Lock
		call   call
		answer api.Answer
		states [][]int64 // ahead of each step, and at the end
	}{
		{"Write", open, write(1, 9, 8, 6), yes(0), [][]int64{fresh, fresh, odd, {1, 9, 5, 7}, {1, 9, 8, 7}, {1, 9, 8, 6}, {2, 9, 8, 6}}},
		{"Write of fewer", open, write(1, 9), yes(0), [][]int64{fresh, fresh, odd, {1, 9, 5, 7}, {1, 9, 0, 7}, {1, 9, 0, 0}, {2, 9, 0, 0}}},
		{"Write of the same", open, write(1, 3, 5, 7), yes(0), [][]int64{fresh, fresh, odd, odd, odd, odd, {2, 3, 5, 7}}},
		{"Write while it is odd", shut, write(3, 9), nothing, [][]int64{odd, odd, odd, odd}},
		{"Add", open, add(1, 1, -1, 2), yes(0), [][]int64{fresh, fresh, odd, {1, 4, 5, 7}, {1, 4, 4, 7}, {1, 4, 4, 9}, {2, 4, 4, 9}}},
		{"Add of fewer", open, add(1, 1), yes(0), [][]int64{fresh, fresh, odd, {1, 4, 5, 7}, {1, 4, 5, 7}, {1, 4, 5, 7}, {2, 4, 5, 7}}},
		{"Add while it is odd", shut, add(2, 9), nothing, [][]int64{odd, odd, odd}},
		{"Read", open, read(1), list(true, 3, 5, 7), slices.Repeat([][]int64{fresh}, 6)},
		{"Read while it is odd", shut, read(2), nothing, [][]int64{odd, odd, odd}},
		{"Raw", open, raw, list(false, 3, 5, 7), slices.Repeat([][]int64{fresh}, 4)},
		{"Raw while it is odd", shut, raw, list(false, 3, 5, 7), slices.Repeat([][]int64{odd}, 4)},
		{"Newer", open, newer(0), nothing, [][]int64{fresh, fresh}},
		{"Newer while it is odd", shut, newer(0), yes(1), [][]int64{odd, odd}},
	} {
		l := x.lock()
		w := &watcher{lock: l}
		if got := x.call(l, w); !alike(got, x.answer) || !slices.EqualFunc(append(w.log, look(l)), x.states, slices.Equal) {
			t.Error(x.name, got, w.log, look(l))
		}
		l = x.lock()
		if got := x.call(l, nil); !alike(got, x.answer) || !slices.Equal(look(l), x.states[len(x.states)-1]) {
			t.Error(x.name, "without a Stepper", got, look(l))
		}
	}
}

func open() *seqlock.Lock { return seqlock.New(3, 5, 7) }

func shut() *seqlock.Lock { return held(3, 5, 7) }

// between is a call at one of whose steps another one comes between.
type between struct {
	name   string
	call   call
	ahead  int
	other  call
	answer api.Answer
	steps  int
	after  []int64
}

func (x between) check(t *testing.T) {
	t.Helper()
	l := open()
	w := &watcher{lock: l, at: map[int]func(){x.ahead: func() { x.other(l, nil) }}}
	if got := x.call(l, w); !alike(got, x.answer) || len(w.log) != x.steps || !slices.Equal(look(l), x.after) {
		t.Error(x.name, got, len(w.log), look(l))
	}
}

// TestBetweenWriteAndAdd: what another one does right ahead of a step of Write or Add is what that step finds.
func TestBetweenWriteAndAdd(t *testing.T) {
	other, some := write(1, 10, 20, 30), write(1, 10, 20, 30)
	for _, x := range []between{
		{"Write, written ahead of S1", write(1, 9, 8, 6), 1, other, yes(0), 6, []int64{4, 9, 8, 6}},
		{"Write, half written ahead of S1", write(1, 9, 8, 6), 1, half(some, 3), nothing, 1, []int64{1, 10, 5, 7}},
		{"Write, half written ahead of S1, of three tries", write(3, 9, 8, 6), 1, half(some, 5), nothing, 3, []int64{1, 10, 20, 30}},
		{"Write, begun and nothing done ahead of S1", write(1, 9, 8, 6), 1, half(some, 1), yes(0), 6, []int64{2, 9, 8, 6}},
		{"Write, written ahead of S2", write(1, 9, 8, 6), 2, other, nothing, 2, []int64{2, 10, 20, 30}},
		{"Write, written ahead of S2, of two tries", write(2, 9, 8, 6), 2, other, yes(0), 8, []int64{4, 9, 8, 6}},
		{"Write, half written ahead of S2", write(1, 9, 8, 6), 2, half(some, 2), nothing, 2, []int64{1, 3, 5, 7}},
		{"Write, half written ahead of S2, of four tries", write(4, 9, 8, 6), 2, half(some, 2), nothing, 5, []int64{1, 3, 5, 7}},
		{"Write, nothing added ahead of S2", write(1, 9, 8, 6), 2, add(1), nothing, 2, []int64{2, 3, 5, 7}},
		{"Write, another one ahead of S3", write(1, 9, 8, 6), 3, other, yes(0), 6, []int64{2, 9, 8, 6}},
		{"Write, another one ahead of its last step", write(1, 9, 8, 6), 6, other, yes(0), 6, []int64{2, 9, 8, 6}},
		{"Add, written ahead of S1", add(1, 1, 1, 1), 1, other, yes(0), 6, []int64{4, 11, 21, 31}},
		{"Add, half written ahead of S1", add(2, 1, 1, 1), 1, half(some, 3), nothing, 2, []int64{1, 10, 5, 7}},
		{"Add, written ahead of S2", add(1, 1, 1, 1), 2, other, nothing, 2, []int64{2, 10, 20, 30}},
		{"Add, written ahead of S2, of two tries", add(2, 1, 1, 1), 2, other, yes(0), 8, []int64{4, 11, 21, 31}},
		{"Add, half written ahead of S2", add(3, 1, 1, 1), 2, half(some, 4), nothing, 4, []int64{1, 10, 20, 7}},
		{"Add, another one ahead of S3", add(1, 1, 1, 1), 3, other, yes(0), 6, []int64{2, 4, 6, 8}},
		{"Add, another one ahead of its last step", add(1, 1, 1, 1), 6, add(9, 5), yes(0), 6, []int64{2, 4, 6, 8}},
	} {
		x.check(t)
	}
}

// TestBetweenReads: the same of the steps of Read, Raw and Newer.
func TestBetweenReads(t *testing.T) {
	other, written := write(1, 10, 20, 30), []int64{2, 10, 20, 30}
	for _, x := range []between{
		{"Read, written ahead of S1", read(1), 1, other, list(true, 10, 20, 30), 5, written},
		{"Read, half written ahead of S1", read(1), 1, half(other, 2), nothing, 1, []int64{1, 3, 5, 7}},
		{"Read, half written ahead of S1, of three tries", read(3), 1, half(other, 5), nothing, 3, []int64{1, 10, 20, 30}},
		{"Read, begun and nothing done ahead of S1", read(1), 1, half(other, 1), list(true, 3, 5, 7), 5, []int64{0, 3, 5, 7}},
		{"Read, written ahead of S2", read(1), 2, other, nothing, 5, written},
		{"Read, written ahead of S2, of two tries", read(2), 2, other, list(true, 10, 20, 30), 10, written},
		{"Read, half written ahead of S2", read(1), 2, half(other, 2), nothing, 5, []int64{1, 3, 5, 7}},
		{"Read, half written ahead of S2, of three tries", read(3), 2, half(other, 2), nothing, 7, []int64{1, 3, 5, 7}},
		{"Read, written ahead of S3", read(1), 3, other, nothing, 5, written},
		{"Read, written ahead of S4", read(1), 4, other, nothing, 5, written},
		{"Read, written ahead of S5", read(1), 5, other, nothing, 5, written},
		{"Read, written ahead of S5, of two tries", read(2), 5, other, list(true, 10, 20, 30), 10, written},
		{"Read, half written ahead of S5", read(1), 5, half(other, 2), nothing, 5, []int64{1, 3, 5, 7}},
		{"Read, nothing added ahead of S5", read(1), 5, add(1), nothing, 5, []int64{2, 3, 5, 7}},
		{"Read, written and back ahead of S5", read(1), 5, all(other, write(1, 3, 5, 7)), nothing, 5, []int64{4, 3, 5, 7}},
		{"Raw, written ahead of S1", raw, 1, other, list(false, 10, 20, 30), 3, written},
		{"Raw, written ahead of S2", raw, 2, other, list(false, 3, 20, 30), 3, written},
		{"Raw, written ahead of S3", raw, 3, other, list(false, 3, 5, 30), 3, written},
		{"Raw, half written ahead of S2", raw, 2, half(other, 4), list(false, 3, 20, 7), 3, []int64{1, 10, 20, 7}},
		{"Newer, written ahead of S1", newer(1), 1, other, yes(2), 1, written},
		{"Newer, half written ahead of S1", newer(0), 1, half(other, 2), yes(1), 1, []int64{1, 3, 5, 7}},
	} {
		x.check(t)
	}
}

// TestEndedWithin: a thread that is ended at a step has done those ahead of it, and nothing that lies behind; who has left the version odd has shut the lock.
func TestEndedWithin(t *testing.T) {
	fresh, odd := []int64{0, 3, 5, 7}, []int64{1, 3, 5, 7}
	for _, x := range []struct {
		name  string
		call  call
		after [][]int64 // by how many steps it may do
	}{
		{"Write", write(2, 9, 8, 6), [][]int64{fresh, fresh, odd, {1, 9, 5, 7}, {1, 9, 8, 7}, {1, 9, 8, 6}}},
		{"Add", add(2, 1, 1, 1), [][]int64{fresh, fresh, odd, {1, 4, 5, 7}, {1, 4, 6, 7}, {1, 4, 6, 8}}},
		{"Read", read(2), slices.Repeat([][]int64{fresh}, 5)},
		{"Raw", raw, slices.Repeat([][]int64{fresh}, 3)},
		{"Newer", newer(0), [][]int64{fresh}},
	} {
		for most, after := range x.after {
			l := open()
			if turn.Alone(turn.NewCounter(most), func(s turn.Stepper) { x.call(l, s) }) || !slices.Equal(look(l), after) {
				t.Error(x.name, most, look(l))
			}
			open := after[0]%2 == 0
			if l.Write(nil, 3, 1) != open || l.Add(nil, 3, 1) != open {
				t.Error(x.name, most, "and then", look(l))
			}
			if _, ok := l.Read(nil, 3); ok != open {
				t.Error(x.name, most, "and then a Read of", look(l))
			}
		}
	}
}

// calls are some of every kind.
func calls() map[string]call {
	return map[string]call{
		"Write": write(1, 5), "Write of none": write(1), "Write of many": write(2, 1, 2, 3), "Write of tries 0": write(0, 5), "Write of all tries": write(math.MaxInt, 5),
		"Add": add(1, 5), "Add of none": add(-1), "Add of many": add(2, 1, 2, 3), "Read": read(1), "Read of tries -1": read(-1), "Read of all tries": read(math.MaxInt),
		"Raw": raw, "Newer": newer(0), "Newer than -1": newer(-1), "Newer than the least": newer(math.MinInt64), "Newer than the greatest": newer(math.MaxInt64),
	}
}

// TestNil is P8.8: a nil Lock has no words: all answer zero; a Step would end the thread.
func TestNil(t *testing.T) {
	var none *seqlock.Lock
	if none.Len() != 0 || none.Version() != 0 || len(none.Values()) != 0 {
		t.Error(none.Len(), none.Version(), none.Values())
	}
	for name, do := range calls() {
		if back := turn.Alone(turn.NewCounter(0), func(s turn.Stepper) {
			if got, bare := do(none, s), do(none, nil); !alike(got, nothing) || !alike(bare, nothing) {
				t.Error(name, got, bare)
			}
		}); !back {
			t.Error(name, "has done a step, or has panicked")
		}
	}
}

// TestZero is P8.8: the zero Lock has one word, and is as New makes it of none.
func TestZero(t *testing.T) {
	l := &seqlock.Lock{}
	if l.Len() != 1 || !slices.Equal(look(l), []int64{0, 0}) {
		t.Error(l.Len(), look(l))
	}
	for name, do := range calls() {
		zero, one := &seqlock.Lock{}, seqlock.New()
		for range 3 {
			a, b := turn.NewCounter(99), turn.NewCounter(99)
			if !alike(do(zero, a), do(one, b)) || a.Steps() != b.Steps() || a.Steps() == 0 || !slices.Equal(look(zero), look(one)) || zero.Len() != 1 {
				t.Error(name, look(zero), look(one), a.Steps(), b.Steps())
			}
		}
	}
	check(t, l, "Read", read(1), list(true, 0), 3, 0, 0)
	check(t, l, "Write", write(1, 7, 8), yes(0), 4, 2, 7)
	check(t, l, "Add", add(1, -9), yes(0), 4, 4, -2)
	check(t, l, "Raw", raw, list(false, -2), 1, 4, -2)
	check(t, l, "Newer", newer(3), yes(4), 1, 4, -2)
	check(t, l, "Read", read(1), list(true, -2), 3, 4, -2)
}

// together lets so many goroutines go at one time.
func together(do func(n int)) {
	threads := make([]func(s turn.Stepper), crowd)
	for n := range threads {
		threads[n] = func(turn.Stepper) { do(n) }
	}
	turn.Go(threads)
}

// times are values that go together: the word i is i + 1 times the first one.
func times(v int64, n int) []int64 {
	all := make([]int64, n)
	for i := range all {
		all[i] = int64(i+1) * v
	}
	return all
}

// TestFreeWrites is P8.5 of free threads: what is read was written by one, and of each one no earlier than what was read before.
func TestFreeWrites(t *testing.T) {
	const each = 20000
	for _, n := range sizes() {
		l := seqlock.New(make([]int64, n)...)
		var written, seen [crowd]int64
		together(func(thread int) {
			last := [crowd]int64{}
			for i := range int64(each) {
				if thread%2 == 0 {
					if l.Write(nil, 1+int(i%9), times(i*crowd+int64(thread), n)...) {
						written[thread]++
					}
				} else if words, ok := l.Read(nil, 1+int(i%99)); ok {
					seen[thread]++
					from := words[0] % crowd
					if !slices.Equal(words, times(words[0], n)) || words[0] < last[from] {
						t.Error(n, words, last)
						return
					}
					last[from] = words[0]
				} else if len(words) != 0 {
					t.Error(words)
				}
			}
		})
		if total := sum(written[:]); l.Version() != 2*total || total == 0 || !slices.Equal(l.Values(), times(l.Values()[0], n)) {
			t.Error(n, look(l), written, seen)
		}
	}
}

// TestFreeAdds is P8.5 and P7: what is added is lost nowhere, what is read rises, and all of it belongs together.
func TestFreeAdds(t *testing.T) {
	const each = 20000
	for _, n := range sizes() {
		l := seqlock.New(make([]int64, n)...)
		var added [crowd]int64
		together(func(thread int) {
			last, version := int64(0), int64(0)
			for i := range each {
				if thread%2 == 0 && l.Add(nil, 1+i%7, times(int64(thread+1), n)...) {
					added[thread]++
				}
				now, newer := l.Newer(nil, version)
				if now < version || newer != (now > version) {
					t.Error(n, now, version, newer)
				}
				version = now
				words, ok := l.Read(nil, 1+i%50)
				if ok && (words[0] < last || !slices.Equal(words, times(words[0], n))) {
					t.Error(n, words, last)
					return
				}
				if ok {
					last = words[0]
				}
			}
		})
		want := int64(0)
		for thread, count := range added {
			want += count * int64(thread+1)
		}
		if !slices.Equal(look(l), append([]int64{2 * sum(added[:])}, times(want, n)...)) || want == 0 {
			t.Error(n, look(l), added)
		}
	}
}

func sum(numbers []int64) int64 {
	total := int64(0)
	for _, n := range numbers {
		total += n
	}
	return total
}
