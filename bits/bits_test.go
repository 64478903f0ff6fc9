package bits_test

import (
	"fmt"
	"math"
	"slices"
	"testing"

	"carillon/api"
	"carillon/bits"
	"carillon/turn"
)

const crowd = 8

// told is what a call answers, of whichever kind; a list as a text.
type told struct {
	yes  bool
	n    int
	list string
	err  api.Errno
}

type call = func(x *bits.Set, s turn.Stepper) told

func put(i int) call {
	return func(x *bits.Set, s turn.Stepper) told {
		yes, err := x.Put(s, i)
		return told{yes: yes, err: err}
	}
}

func drop(i int) call {
	return func(x *bits.Set, s turn.Stepper) told {
		yes, err := x.Drop(s, i)
		return told{yes: yes, err: err}
	}
}

func has(i int) call {
	return func(x *bits.Set, s turn.Stepper) told {
		yes, err := x.Has(s, i)
		return told{yes: yes, err: err}
	}
}

func claim(x *bits.Set, s turn.Stepper) told {
	n, err := x.Claim(s)
	return told{n: n, err: err}
}

func count(x *bits.Set, s turn.Stepper) told { return told{n: x.Count(s)} }

func list(x *bits.Set, s turn.Stepper) told { return told{list: text(x.List(s))} }

func text(all []int) string { return fmt.Sprint(all) }

// span is the numbers from low to below high.
func span(low, high int) []int {
	var all []int
	for i := low; i < high; i++ {
		all = append(all, i)
	}
	return all
}

// holds makes a set of the size n with these numbers.
func holds(n int, numbers ...int) *bits.Set {
	x, _ := bits.New(n)
	for _, i := range numbers {
		x.Put(nil, i)
	}
	return x
}

// sizes are those about the words' edges.
func sizes() []int { return []int{0, 1, 2, 63, 64, 65, 70, 127, 128, 129, 130} }

func wordsOf(n int) int { return (n + 63) / 64 }

// watcher logs ahead of each step what is in the set by then; at some of them something comes between behind the look.
type watcher struct {
	set *bits.Set
	log []string
	at  map[int]func()
}

func (w *watcher) Step() {
	w.log = append(w.log, text(w.set.List(nil)))
	if f := w.at[len(w.log)]; f != nil {
		f()
	}
}

// check holds a call's answer and its steps, when it is alone, against these.
func check(t *testing.T, x *bits.Set, name string, c call, answer told, steps int) {
	t.Helper()
	counter := turn.NewCounter(api.MostSteps)
	if got := c(x, counter); got != answer || counter.Steps() != steps {
		t.Errorf("%s of %v in %d: %+v in %d steps, want %+v in %d", name, x.List(nil), x.Size(), got, counter.Steps(), answer, steps)
	}
}

// TestNew is P4.1.
func TestNew(t *testing.T) {
	for _, n := range []int{math.MinInt, -65, -1, api.MostSize + 1, 2 * api.MostSize, math.MaxInt} {
		if x, err := bits.New(n); x != nil || err != api.ErrRange {
			t.Error(n, x, err)
		}
	}
	for _, n := range append(sizes(), api.MostSize-1, api.MostSize) {
		x, err := bits.New(n)
		if err != api.OK || x.Size() != n {
			t.Fatal(n, err, x.Size())
		}
		check(t, x, "Count", count, told{}, wordsOf(n))
		check(t, x, "List", list, told{list: "[]"}, wordsOf(n))
		x.Put(nil, n-1)
		if other, _ := bits.New(n); other.Count(nil) != 0 || x.Size() != n {
			t.Error(n, "two sets share their words, or the size has changed")
		}
	}
}

// TestOutOfRange: a number that is not in the range is refused without a step, also where its bit would lie in the last word.
func TestOutOfRange(t *testing.T) {
	for _, n := range sizes() {
		x := holds(n, span(0, n/2)...)
		before := text(x.List(nil))
		for _, i := range []int{math.MinInt, -1 << 32, -65, -64, -63, -1, n, n + 1, 64*wordsOf(n) - 1, 64 * wordsOf(n), n + 64, api.MostSize, 1 << 32, math.MaxInt} {
			if i >= 0 && i < n {
				continue
			}
			for name, c := range map[string]call{"Put": put(i), "Drop": drop(i), "Has": has(i)} {
				check(t, x, fmt.Sprint(name, i), c, told{err: api.ErrRange}, 0)
			}
		}
		if text(x.List(nil)) != before {
			t.Error(n, before, x.List(nil))
		}
	}
}

// TestEachNumber is P4.2 to P4.4 and P4.6 of each number alone, in an empty set and among all the others.
func TestEachNumber(t *testing.T) {
	for _, n := range sizes() {
		full := holds(n, span(0, n)...)
		for i := range n {
			x, most := holds(n), slices.Delete(span(0, n), i, i+1)
			check(t, x, "Has", has(i), told{}, 1)
			check(t, x, "Drop", drop(i), told{}, 1)
			check(t, x, "Put", put(i), told{yes: true}, 2)
			check(t, x, "Put again", put(i), told{}, 1)
			check(t, x, "Has", has(i), told{yes: true}, 1)
			check(t, x, "List", list, told{list: text([]int{i})}, wordsOf(n))
			check(t, x, "Count", count, told{n: 1}, wordsOf(n))
			check(t, full, "Drop", drop(i), told{yes: true}, 2)
			check(t, full, "Drop again", drop(i), told{}, 1)
			check(t, full, "Has", has(i), told{}, 1)
			check(t, full, "List", list, told{list: text(most)}, wordsOf(n))
			check(t, full, "Count", count, told{n: n - 1}, wordsOf(n))
			check(t, full, "Put", put(i), told{yes: true}, 2)
			check(t, full, "Count", count, told{n: n}, wordsOf(n))
			check(t, x, "Drop", drop(i), told{yes: true}, 2)
			check(t, x, "List", list, told{list: "[]"}, wordsOf(n))
		}
	}
}

// TestClaim is P4.5 of a thread that is alone.
func TestClaim(t *testing.T) {
	for _, n := range sizes() {
		x := holds(n)
		for i := range n {
			check(t, x, "Claim", claim, told{n: i}, i/64+2)
		}
		check(t, x, "Claim of a full one", claim, told{err: api.ErrFull}, wordsOf(n))
		check(t, x, "Count", count, told{n: n}, wordsOf(n))
		check(t, x, "List", list, told{list: text(span(0, n))}, wordsOf(n))
		for i := range n {
			x.Drop(nil, i)
			x.Drop(nil, n-1)
			check(t, x, "Claim", claim, told{n: i}, i/64+2)
			x.Put(nil, n-1)
		}
		if x.Count(nil) != n {
			t.Error(n, x.List(nil))
		}
	}
}

// TestMostSize: the greatest set, whole.
func TestMostSize(t *testing.T) {
	x := holds(api.MostSize)
	for i := range api.MostSize {
		if n, err := x.Claim(nil); n != i || err != api.OK {
			t.Fatal(i, n, err)
		}
	}
	check(t, x, "Claim", claim, told{err: api.ErrFull}, 1024)
	check(t, x, "Count", count, told{n: api.MostSize}, 1024)
	check(t, x, "Drop", drop(api.MostSize-1), told{yes: true}, 2)
	check(t, x, "Claim", claim, told{n: api.MostSize - 1}, 1025)
	if !slices.Equal(x.List(nil), span(0, api.MostSize)) {
		t.Error("List")
	}
}

func TestExamples(t *testing.T) {
	x := holds(70)
	check(t, x, "Count", count, told{}, 2)
	check(t, x, "Put", put(69), told{yes: true}, 2)
	check(t, x, "Put", put(69), told{}, 1)
	check(t, x, "Has", has(69), told{yes: true}, 1)
	check(t, x, "Put", put(70), told{err: api.ErrRange}, 0)
	check(t, x, "Claim", claim, told{}, 2)
	check(t, x, "Claim", claim, told{n: 1}, 2)
	check(t, x, "Drop", drop(0), told{yes: true}, 2)
	check(t, x, "Claim", claim, told{}, 2)
	check(t, holds(70, span(0, 64)...), "Claim", claim, told{n: 64}, 3)
	check(t, holds(0), "Claim", claim, told{err: api.ErrFull}, 0)
	check(t, holds(0), "Count", count, told{}, 0)
}

// TestStepsInOrder: what is in ahead of each step, and behind the last: Step is called right ahead of it, and without a Stepper the answers are the same.
func TestStepsInOrder(t *testing.T) {
	low := span(0, 64)
	for _, x := range []struct {
		name   string
		start  func() *bits.Set
		call   call
		answer told
		steps  int
		after  []int
	}{
		{"Put", func() *bits.Set { return holds(70, 1) }, put(65), told{yes: true}, 2, []int{1, 65}},
		{"Put of one that is in", func() *bits.Set { return holds(70, 1) }, put(1), told{}, 1, []int{1}},
		{"Drop", func() *bits.Set { return holds(70, 1, 65) }, drop(65), told{yes: true}, 2, []int{1}},
		{"Drop of one that isn't in", func() *bits.Set { return holds(70, 1) }, drop(65), told{}, 1, []int{1}},
		{"Has", func() *bits.Set { return holds(70, 1) }, has(1), told{yes: true}, 1, []int{1}},
		{"Claim", func() *bits.Set { return holds(70, 0, 1, 3) }, claim, told{n: 2}, 2, []int{0, 1, 2, 3}},
		{"Claim in the second word", func() *bits.Set { return holds(70, low...) }, claim, told{n: 64}, 3, span(0, 65)},
		{"Claim of a full one", func() *bits.Set { return holds(65, span(0, 65)...) }, claim, told{err: api.ErrFull}, 2, span(0, 65)},
		{"Count", func() *bits.Set { return holds(130, 0, 64, 129) }, count, told{n: 3}, 3, []int{0, 64, 129}},
		{"List", func() *bits.Set { return holds(130, 129, 64, 0) }, list, told{list: "[0 64 129]"}, 3, []int{0, 64, 129}},
	} {
		set := x.start()
		w := &watcher{set: set}
		log := slices.Repeat([]string{text(set.List(nil))}, x.steps)
		if got := x.call(set, w); got != x.answer || !slices.Equal(w.log, log) || !slices.Equal(set.List(nil), x.after) {
			t.Error(x.name, got, w.log, set.List(nil))
		}
		set = x.start()
		if got := x.call(set, nil); got != x.answer || !slices.Equal(set.List(nil), x.after) {
			t.Error(x.name, "without a Stepper", got, set.List(nil))
		}
	}
}

// both does one behind the other.
func both(first, second call) call {
	return func(x *bits.Set, s turn.Stepper) told {
		first(x, s)
		return second(x, s)
	}
}

// TestBetweenTheSteps: what another one does right ahead of a step is what that step finds.
func TestBetweenTheSteps(t *testing.T) {
	low := span(0, 64)
	for _, x := range []struct {
		name   string
		start  *bits.Set
		call   call
		ahead  int
		other  call
		answer told
		steps  int
		after  []int
	}{
		{"Put, the same ahead of S1", holds(70), put(3), 1, put(3), told{}, 1, []int{3}},
		{"Put, the same ahead of S2", holds(70), put(3), 2, put(3), told{}, 3, []int{3}},
		{"Put, another of its word ahead of S2", holds(70), put(3), 2, put(5), told{yes: true}, 4, []int{3, 5}},
		{"Put, one dropped from its word ahead of S2", holds(70, 5), put(3), 2, drop(5), told{yes: true}, 4, []int{3}},
		{"Put, another word's ahead of S2", holds(70), put(3), 2, put(65), told{yes: true}, 2, []int{3, 65}},
		{"Put, its word changed and back ahead of S2", holds(70), put(3), 2, both(put(3), drop(3)), told{yes: true}, 2, []int{3}},
		{"Drop, the same ahead of S1", holds(70, 3), drop(3), 1, drop(3), told{}, 1, nil},
		{"Drop, the same ahead of S2", holds(70, 3), drop(3), 2, drop(3), told{}, 3, nil},
		{"Drop, another of its word ahead of S2", holds(70, 3), drop(3), 2, put(5), told{yes: true}, 4, []int{5}},
		{"Drop, another word's ahead of S2", holds(70, 3), drop(3), 2, put(65), told{yes: true}, 2, []int{65}},
		{"Has, put ahead of S1", holds(70), has(3), 1, put(3), told{yes: true}, 1, []int{3}},
		{"Claim, the same ahead of S2", holds(70), claim, 2, claim, told{n: 1}, 4, []int{0, 1}},
		{"Claim, a greater one ahead of S2", holds(70), claim, 2, put(9), told{}, 4, []int{0, 9}},
		{"Claim, a lesser one dropped ahead of S2", holds(70, 0, 1), claim, 2, drop(0), told{}, 4, []int{0, 1}},
		{"Claim, another word's ahead of S2", holds(70), claim, 2, put(64), told{}, 2, []int{0, 64}},
		{"Claim, the word filled ahead of S2", holds(70, span(0, 63)...), claim, 2, claim, told{n: 64}, 5, span(0, 65)},
		{"Claim, the last word filled ahead of S2", holds(65, low...), claim, 3, claim, told{err: api.ErrFull}, 4, span(0, 65)},
		{"Claim, the only number claimed ahead of S2", holds(1), claim, 2, claim, told{err: api.ErrFull}, 3, []int{0}},
		{"Claim, dropped from a word behind it", holds(70, low...), claim, 2, drop(0), told{n: 64}, 3, span(1, 65)},
		{"Claim, filled but for what is behind it", holds(65, span(0, 65)...), claim, 2, drop(0), told{err: api.ErrFull}, 2, span(1, 65)},
		{"Count, put in a word behind it", holds(70), count, 2, put(0), told{}, 2, []int{0}},
		{"Count, put in a word ahead of it", holds(70), count, 2, put(64), told{n: 1}, 2, []int{64}},
		{"Count, moved on", holds(70, 0), count, 2, both(drop(0), put(64)), told{n: 2}, 2, []int{64}},
		{"List, moved on", holds(70, 0), list, 2, both(drop(0), put(64)), told{list: "[0 64]"}, 2, []int{64}},
		{"List, moved back", holds(70, 64), list, 2, both(drop(64), put(0)), told{list: "[]"}, 2, []int{0}},
	} {
		w := &watcher{set: x.start, at: map[int]func(){x.ahead: func() { x.other(x.start, nil) }}}
		if got := x.call(x.start, w); got != x.answer || len(w.log) != x.steps || !slices.Equal(x.start.List(nil), x.after) {
			t.Error(x.name, got, len(w.log), x.start.List(nil))
		}
	}
}

// TestEndedWithin: a thread that is ended at a step has changed nothing that lies behind it.
func TestEndedWithin(t *testing.T) {
	for name, c := range map[string]call{"Put": put(65), "Drop": drop(64), "Claim": claim} {
		for most := range 2 {
			x := holds(70, 64)
			if turn.Alone(turn.NewCounter(most), func(s turn.Stepper) { c(x, s) }) || text(x.List(nil)) != "[64]" {
				t.Error(name, most, x.List(nil))
			}
		}
	}
}

// TestNoSize is P4.9.
func TestNoSize(t *testing.T) {
	empty, _ := bits.New(0)
	for name, x := range map[string]*bits.Set{"nil": nil, "zero": {}, "New(0)": empty} {
		if x.Size() != 0 {
			t.Error(name, x.Size())
		}
		for _, i := range []int{-1, 0, 1, 64} {
			check(t, x, name+" Put", put(i), told{err: api.ErrRange}, 0)
			check(t, x, name+" Drop", drop(i), told{err: api.ErrRange}, 0)
			check(t, x, name+" Has", has(i), told{err: api.ErrRange}, 0)
		}
		check(t, x, name+" Claim", claim, told{err: api.ErrFull}, 0)
		check(t, x, name+" Count", count, told{}, 0)
		check(t, x, name+" List", list, told{list: "[]"}, 0)
		if got := claim(x, nil); got != (told{err: api.ErrFull}) {
			t.Error(name, got)
		}
	}
}

// TestListIsNew: no answer shares memory with another one, or with the set.
func TestListIsNew(t *testing.T) {
	x := holds(70, 1, 2, 69)
	first, second := x.List(nil), x.List(nil)
	whole := first[:cap(first)]
	for i := range whole {
		whole[i] = -1
	}
	if text(second) != "[1 2 69]" || text(x.List(nil)) != "[1 2 69]" {
		t.Error(second, x.List(nil))
	}
}

// together lets so many goroutines go at one time.
func together(do func(n int)) {
	threads := make([]func(s turn.Stepper), crowd)
	for n := range threads {
		threads[n] = func(turn.Stepper) { do(n) }
	}
	turn.Go(threads)
}

// TestFreeCalls: of all who claim, put and drop at one time each number is had by one; looks at the set tell of nothing that can't be.
func TestFreeCalls(t *testing.T) {
	const size = 70
	for round := range 300 {
		x := holds(size)
		var had [crowd][size]int
		together(func(n int) {
			for range 40 {
				if i, err := x.Claim(nil); err == api.OK {
					had[n][i]++
				}
				i := (n*7 + round) % size
				if yes, _ := x.Put(nil, i); yes {
					had[n][i]++
				}
				if yes, _ := x.Drop(nil, size-1-i); yes {
					had[n][size-1-i]--
				}
				if all := x.List(nil); !slices.IsSorted(all) || len(all) > size || x.Count(nil) > size {
					t.Error(all)
				}
			}
		})
		for i := range size {
			sum := 0
			for n := range crowd {
				sum += had[n][i]
			}
			if yes, _ := x.Has(nil, i); sum != btoi(yes) {
				t.Fatal(round, i, sum, yes)
			}
		}
	}
}

func btoi(yes bool) int {
	if yes {
		return 1
	}
	return 0
}
