package stripe_test

import (
	"fmt"
	"math"
	"slices"
	"testing"

	"carillon/api"
	"carillon/stripe"
	"carillon/turn"
)

const crowd = 8

// told is what a call answers, of whichever kind.
type told struct {
	n   int64
	yes bool
}

type call = func(c *stripe.Counter, s turn.Stepper) told

func add(at int, v int64) call {
	return func(c *stripe.Counter, s turn.Stepper) told { return told{n: c.Add(s, at, v)} }
}

func sum(c *stripe.Counter, s turn.Stepper) told { return told{n: c.Sum(s)} }

func take(c *stripe.Counter, s turn.Stepper) told { return told{n: c.Take(s)} }

func move(from, to int, v int64) call {
	return func(c *stripe.Counter, s turn.Stepper) told {
		c.Move(s, from, to, v)
		return told{}
	}
}

func even(c *stripe.Counter, s turn.Stepper) told {
	n, ok := c.Even(s)
	return told{n, ok}
}

// both does one behind the other.
func both(first, second call) call {
	return func(c *stripe.Counter, s turn.Stepper) told {
		first(c, s)
		return second(c, s)
	}
}

// holds makes a counter with these numbers, a stripe each.
func holds(numbers ...int64) *stripe.Counter {
	c := stripe.New(len(numbers))
	for i, n := range numbers {
		c.Add(nil, i, n)
	}
	return c
}

// powers is a number for each of n stripes, of which no two sums are the same.
func powers(n int) []int64 {
	var all []int64
	for i := range n {
		all = append(all, 1<<i)
	}
	return all
}

func sizes() []int { return []int{1, 2, 3, 5, 8, 63, 64} }

// ats are numbers at which a stripe is asked for, about n and far from it.
func ats(n int) []int {
	all := []int{math.MinInt, math.MinInt + 1, -1 << 33, -1 << 32, -1000, 1000, 1 << 32, 1<<32 + 1, 1 << 33, math.MaxInt - 1, math.MaxInt}
	for at := -2*n - 1; at <= 2*n+1; at++ {
		all = append(all, at)
	}
	return all
}

// place is the number of the stripe at a, of n.
func place(a, n int) int { return (a%n + n) % n }

func total(numbers []int64) int64 {
	all := int64(0)
	for _, n := range numbers {
		all += n
	}
	return all
}

// check holds a call's answer, its steps, when it is alone, and what it leaves against these.
func check(t *testing.T, c *stripe.Counter, name string, do call, answer told, steps int, after []int64) {
	t.Helper()
	before, counter := c.All(), turn.NewCounter(api.MostSteps)
	if got := do(c, counter); got != answer || counter.Steps() != steps || !slices.Equal(c.All(), after) {
		t.Errorf("%s of %v: %+v in %d steps, leaves %v; want %+v in %d, %v", name, before, got, counter.Steps(), c.All(), answer, steps, after)
	}
}

// TestNew is P5.1.
func TestNew(t *testing.T) {
	for stripes, want := range map[int]int{
		math.MinInt: 1, -1 << 32: 1, -64: 1, -1: 1, 0: 1, 1: 1, 2: 2, 3: 3, 63: 63, 64: 64,
		65: 64, 128: 64, 1000: 64, 1<<32 + 2: 64, math.MaxInt: 64,
	} {
		c := stripe.New(stripes)
		if c.Stripes() != want || c.Total() != 0 || !slices.Equal(c.All(), make([]int64, want)) {
			t.Error(stripes, c.Stripes(), c.Total(), c.All())
		}
		c.Add(nil, want-1, 5)
		if other := stripe.New(stripes); other.Total() != 0 || c.Total() != 5 || c.Stripes() != want {
			t.Error(stripes, "two counters share their stripes, or the number of stripes has changed")
		}
	}
}

// TestAllAndTotal is P5.1 of stripes that are not 0.
func TestAllAndTotal(t *testing.T) {
	for _, n := range sizes() {
		c := holds(powers(n)...)
		for range 2 {
			if !slices.Equal(c.All(), powers(n)) || c.Total() != total(powers(n)) || c.Stripes() != n {
				t.Error(n, c.All(), c.Total(), c.Stripes())
			}
		}
	}
	if c := holds(-3, 0, 7); c.Total() != 4 || !slices.Equal(c.All(), []int64{-3, 0, 7}) {
		t.Error(c.All(), c.Total())
	}
}

// TestAllIsNew: no answer shares memory with another one, or with the counter.
func TestAllIsNew(t *testing.T) {
	c := holds(1, 2, 3)
	first, second := c.All(), c.All()
	whole := first[:cap(first)]
	for i := range whole {
		whole[i] = -1
	}
	if !slices.Equal(second, []int64{1, 2, 3}) || !slices.Equal(c.All(), []int64{1, 2, 3}) || c.Total() != 6 {
		t.Error(second, c.All())
	}
	c.Add(nil, 0, 5)
	if second[0] != 1 {
		t.Error("an answer changes with the counter", second)
	}
}

// TestAdd is P5.2 at every number, also below 0.
func TestAdd(t *testing.T) {
	for _, n := range sizes() {
		c, want := holds(powers(n)...), powers(n)
		for i, at := range ats(n) {
			for _, v := range []int64{3, 0, -int64(i) - 9} {
				want[place(at, n)] += v
				check(t, c, fmt.Sprint("Add at ", at), add(at, v), told{n: want[place(at, n)]}, 1, want)
			}
		}
		if c.Total() != total(want) || c.Sum(nil) != total(want) {
			t.Error(n, c.Total(), c.Sum(nil))
		}
	}
}

// TestSumAndTake is P5.3 of a thread that is alone.
func TestSumAndTake(t *testing.T) {
	for _, n := range sizes() {
		all, none := powers(n), make([]int64, n)
		c := holds(all...)
		check(t, c, "Sum", sum, told{n: total(all)}, n, all)
		check(t, c, "Sum again", sum, told{n: total(all)}, n, all)
		check(t, c, "Take", take, told{n: total(all)}, n, none)
		check(t, c, "Take again", take, told{}, n, none)
		check(t, c, "Sum of none", sum, told{}, n, none)
	}
	check(t, holds(-3, 0, 7), "Sum", sum, told{n: 4}, 3, []int64{-3, 0, 7})
	check(t, holds(-3, 0, 7), "Take", take, told{n: 4}, 3, []int64{0, 0, 0})
}

// TestMove is P5.4 between every two numbers, also from a stripe to itself, and of nothing.
func TestMove(t *testing.T) {
	for _, n := range []int{1, 2, 3, 64} {
		c, want := holds(powers(n)...), powers(n)
		for _, from := range ats(min(n, 3)) {
			for _, to := range ats(min(n, 3)) {
				for _, v := range []int64{5, 0, -2} {
					want[place(from, n)] -= v
					want[place(to, n)] += v
					check(t, c, fmt.Sprint("Move from ", from, " to ", to), move(from, to, v), told{}, 2, want)
				}
			}
		}
		if c.Total() != total(powers(n)) {
			t.Error(n, c.Total())
		}
	}
}

// TestEven is P5.5 of a thread that is alone.
func TestEven(t *testing.T) {
	for _, n := range sizes() {
		all, none := powers(n), make([]int64, n)
		check(t, holds(all...), "Even", even, told{total(all), true}, 2*n, all)
		check(t, holds(none...), "Even of none", even, told{0, true}, 2*n, none)
	}
	check(t, holds(-3, 3), "Even of a sum of 0", even, told{0, true}, 4, []int64{-3, 3})
}

// TestWraps: numbers and sums wrap around.
func TestWraps(t *testing.T) {
	const least, most = math.MinInt64, math.MaxInt64
	check(t, holds(most, 4), "Add", add(0, 1), told{n: least}, 1, []int64{least, 4})
	check(t, holds(4, least), "Add", add(1, -1), told{n: most}, 1, []int64{4, most})
	check(t, holds(least, 4), "Add", add(0, least), told{}, 1, []int64{0, 4})
	check(t, holds(most, 1), "Sum", sum, told{n: least}, 2, []int64{most, 1})
	check(t, holds(least, least), "Sum", sum, told{}, 2, []int64{least, least})
	check(t, holds(most, most, 3), "Take", take, told{n: 1}, 3, []int64{0, 0, 0})
	check(t, holds(most, 2), "Even", even, told{least + 1, true}, 4, []int64{most, 2})
	check(t, holds(0, 0), "Move", move(0, 1, least), told{}, 2, []int64{least, least})
	check(t, holds(-2, 1), "Move", move(0, 1, most), told{}, 2, []int64{most, least})
	check(t, holds(7), "Move to itself", move(0, 0, least), told{}, 2, []int64{7})
	if c := holds(most, 1, 5); c.Total() != least+5 {
		t.Error(c.Total())
	}
}

// watcher logs ahead of each step what the stripes are by then; at some of them something comes between behind the look.
type watcher struct {
	counter *stripe.Counter
	log     [][]int64
	at      map[int]func()
}

func (w *watcher) Step() {
	w.log = append(w.log, w.counter.All())
	if f := w.at[len(w.log)]; f != nil {
		f()
	}
}

// TestStepsInOrder: what the stripes are ahead of each step, and behind the last: Step is called right ahead of it, and without a Stepper the answers are the same.
func TestStepsInOrder(t *testing.T) {
	for _, x := range []struct {
		name   string
		call   call
		answer told
		states [][]int64 // ahead of each step, and at the end
	}{
		{"Add", add(4, 9), told{n: 14}, [][]int64{{3, 5, 7}, {3, 14, 7}}},
		{"Add of 0", add(-1, 0), told{n: 7}, [][]int64{{3, 5, 7}, {3, 5, 7}}},
		{"Sum", sum, told{n: 15}, [][]int64{{3, 5, 7}, {3, 5, 7}, {3, 5, 7}, {3, 5, 7}}},
		{"Take", take, told{n: 15}, [][]int64{{3, 5, 7}, {0, 5, 7}, {0, 0, 7}, {0, 0, 0}}},
		{"Move", move(2, 0, 4), told{}, [][]int64{{3, 5, 7}, {3, 5, 3}, {7, 5, 3}}},
		{"Move on", move(0, 1, 4), told{}, [][]int64{{3, 5, 7}, {-1, 5, 7}, {-1, 9, 7}}},
		{"Move to itself", move(1, 4, 4), told{}, [][]int64{{3, 5, 7}, {3, 1, 7}, {3, 5, 7}}},
		{"Move of 0", move(0, 1, 0), told{}, [][]int64{{3, 5, 7}, {3, 5, 7}, {3, 5, 7}}},
		{"Even", even, told{15, true}, slices.Repeat([][]int64{{3, 5, 7}}, 7)},
	} {
		c := holds(3, 5, 7)
		w := &watcher{counter: c}
		if got := x.call(c, w); got != x.answer || !slices.EqualFunc(append(w.log, c.All()), x.states, slices.Equal) {
			t.Error(x.name, got, w.log, c.All())
		}
		c = holds(3, 5, 7)
		if got := x.call(c, nil); got != x.answer || !slices.Equal(c.All(), x.states[len(x.states)-1]) {
			t.Error(x.name, "without a Stepper", got, c.All())
		}
	}
}

// TestBetweenTheSteps: what another one does right ahead of a step is what that step finds.
func TestBetweenTheSteps(t *testing.T) {
	for _, x := range []struct {
		name   string
		call   call
		ahead  int
		other  call
		answer told
		steps  int
		after  []int64
	}{
		{"Add, the same stripe", add(1, 9), 1, add(1, 100), told{n: 114}, 1, []int64{3, 114, 7}},
		{"Add, taken", add(1, 9), 1, take, told{n: 9}, 1, []int64{0, 9, 0}},
		{"Sum, ahead of it", sum, 1, add(0, 100), told{n: 115}, 3, []int64{103, 5, 7}},
		{"Sum, behind it", sum, 2, add(0, 100), told{n: 15}, 3, []int64{103, 5, 7}},
		{"Sum, a stripe to come", sum, 2, add(1, 100), told{n: 115}, 3, []int64{3, 105, 7}},
		{"Sum, the last stripe", sum, 3, add(2, 100), told{n: 115}, 3, []int64{3, 5, 107}},
		{"Sum, the last but one", sum, 3, add(1, 100), told{n: 15}, 3, []int64{3, 105, 7}},
		{"Sum, moved on", sum, 2, move(0, 2, 2), told{n: 17}, 3, []int64{1, 5, 9}},
		{"Sum, moved back", sum, 2, move(2, 0, 2), told{n: 13}, 3, []int64{5, 5, 5}},
		{"Take, ahead of it", take, 1, add(0, 100), told{n: 115}, 3, []int64{0, 0, 0}},
		{"Take, behind it", take, 2, add(0, 100), told{n: 15}, 3, []int64{100, 0, 0}},
		{"Take, the last stripe", take, 3, add(2, 100), told{n: 115}, 3, []int64{0, 0, 0}},
		{"Take, another one's", take, 2, take, told{n: 3}, 3, []int64{0, 0, 0}},
		{"Move, the stripe from", move(0, 1, 2), 1, add(0, 100), told{}, 2, []int64{101, 7, 7}},
		{"Move, all taken", move(0, 1, 2), 2, take, told{}, 2, []int64{0, 2, 0}},
		{"Even, ahead of it", even, 1, add(0, 100), told{115, true}, 6, []int64{103, 5, 7}},
		{"Even, the first stripe behind it", even, 2, add(0, 100), told{}, 4, []int64{103, 5, 7}},
		{"Even, a stripe to come", even, 2, add(1, 100), told{115, true}, 6, []int64{3, 105, 7}},
		{"Even, the first stripe between", even, 4, add(0, 100), told{}, 4, []int64{103, 5, 7}},
		{"Even, the second stripe between", even, 4, add(1, 100), told{}, 5, []int64{3, 105, 7}},
		{"Even, the last stripe between", even, 4, add(2, 100), told{}, 6, []int64{3, 5, 107}},
		{"Even, the first stripe, looked at again", even, 5, add(0, 100), told{15, true}, 6, []int64{103, 5, 7}},
		{"Even, the last stripe ahead of its last look", even, 6, add(2, 100), told{}, 6, []int64{3, 5, 107}},
		{"Even, the last but one", even, 6, add(1, 100), told{15, true}, 6, []int64{3, 105, 7}},
		{"Even, moved: the same sum", even, 4, move(0, 1, 2), told{}, 4, []int64{1, 7, 7}},
		{"Even, moved among those to come", even, 5, move(1, 2, 2), told{}, 5, []int64{3, 3, 9}},
		{"Even, changed and back", even, 4, both(add(0, 5), add(0, -5)), told{15, true}, 6, []int64{3, 5, 7}},
		{"Even, less than before", even, 4, add(0, -1), told{}, 4, []int64{2, 5, 7}},
		{"Even, nothing added", even, 4, add(0, 0), told{15, true}, 6, []int64{3, 5, 7}},
		{"Even, taken between", even, 4, take, told{}, 4, []int64{0, 0, 0}},
	} {
		c := holds(3, 5, 7)
		w := &watcher{counter: c, at: map[int]func(){x.ahead: func() { x.other(c, nil) }}}
		if got := x.call(c, w); got != x.answer || len(w.log) != x.steps || !slices.Equal(c.All(), x.after) {
			t.Error(x.name, got, len(w.log), c.All())
		}
	}
}

// TestEndedWithin: a thread that is ended at a step has done those ahead of it, and nothing that lies behind.
func TestEndedWithin(t *testing.T) {
	for _, x := range []struct {
		name  string
		call  call
		after [][]int64 // by how many steps it may do
	}{
		{"Add", add(1, 9), [][]int64{{3, 5}}},
		{"Take", take, [][]int64{{3, 5}, {0, 5}}},
		{"Move", move(1, 0, 2), [][]int64{{3, 5}, {3, 3}}},
		{"Sum", sum, [][]int64{{3, 5}, {3, 5}}},
		{"Even", even, [][]int64{{3, 5}, {3, 5}, {3, 5}, {3, 5}}},
	} {
		for most, after := range x.after {
			c := holds(3, 5)
			if turn.Alone(turn.NewCounter(most), func(s turn.Stepper) { x.call(c, s) }) || !slices.Equal(c.All(), after) {
				t.Error(x.name, most, c.All())
			}
		}
	}
}

// TestNil is P5.8: no stripes: all answer zero, without a step.
func TestNil(t *testing.T) {
	var none *stripe.Counter
	if none.Stripes() != 0 || none.Total() != 0 || len(none.All()) != 0 {
		t.Error(none.Stripes(), none.Total(), none.All())
	}
	for name, do := range calls() {
		check(t, none, name, do, told{}, 0, nil)
		if got := do(none, nil); got != (told{}) {
			t.Error(name, got)
		}
	}
}

// calls are some of every kind, also at numbers that are far.
func calls() map[string]call {
	return map[string]call{
		"Add": add(0, 5), "Add at -1": add(-1, 5), "Add at the least int": add(math.MinInt, 5), "Add at the greatest int": add(math.MaxInt, 5),
		"Sum": sum, "Take": take, "Even": even,
		"Move": move(0, 1, 5), "Move from the least int": move(math.MinInt, -1, 5),
	}
}

// TestZero is P5.8: the zero Counter has one stripe, and is as New's with one.
func TestZero(t *testing.T) {
	c := &stripe.Counter{}
	if c.Stripes() != 1 || c.Total() != 0 || !slices.Equal(c.All(), []int64{0}) {
		t.Error(c.Stripes(), c.Total(), c.All())
	}
	check(t, c, "Sum", sum, told{}, 1, []int64{0})
	check(t, &stripe.Counter{}, "Take", take, told{}, 1, []int64{0})
	check(t, &stripe.Counter{}, "Even", even, told{0, true}, 2, []int64{0})
	check(t, &stripe.Counter{}, "Move", move(3, -5, 9), told{}, 2, []int64{0})
	for name, do := range calls() {
		zero, one := &stripe.Counter{}, stripe.New(0)
		for range 2 {
			a, b := turn.NewCounter(99), turn.NewCounter(99)
			if do(zero, a) != do(one, b) || a.Steps() != b.Steps() || a.Steps() == 0 || !slices.Equal(zero.All(), one.All()) || len(zero.All()) != 1 {
				t.Error(name, zero.All(), one.All(), a.Steps(), b.Steps())
			}
		}
	}
	check(t, c, "Add", add(7, 3), told{n: 3}, 1, []int64{3})
	check(t, c, "Add", add(-9, 4), told{n: 7}, 1, []int64{7})
	check(t, c, "Even", even, told{7, true}, 2, []int64{7})
	check(t, c, "Take", take, told{n: 7}, 1, []int64{0})
}

func TestExamples(t *testing.T) {
	c := stripe.New(2)
	check(t, c, "Add at -1", add(-1, 7), told{n: 7}, 1, []int64{0, 7})
	c = stripe.New(2)
	check(t, c, "Add", add(0, 5), told{n: 5}, 1, []int64{5, 0})
	check(t, c, "Add", add(3, 7), told{n: 7}, 1, []int64{5, 7})
	check(t, c, "Take", take, told{n: 12}, 2, []int64{0, 0})
}

// together lets so many goroutines go at one time.
func together(do func(n int)) {
	threads := make([]func(s turn.Stepper), crowd)
	for n := range threads {
		threads[n] = func(turn.Stepper) { do(n) }
	}
	turn.Go(threads)
}

// counters are those that the free calls go at.
func counters() map[string]*stripe.Counter {
	return map[string]*stripe.Counter{"zero": {}, "one": stripe.New(1), "two": stripe.New(2), "many": stripe.New(64)}
}

// TestFreeAdds is P7 and P5.6: nothing that is added is lost, and each number of a stripe that rises by 1 is answered once.
func TestFreeAdds(t *testing.T) {
	const each = 20000
	for name, c := range counters() {
		n := c.Stripes()
		var answers [crowd][]int64
		together(func(thread int) {
			for range each {
				answers[thread] = append(answers[thread], c.Add(nil, -1, 1))
			}
		})
		seen := make([]bool, crowd*each+1)
		for _, list := range answers {
			for _, v := range list {
				if v < 1 || v > crowd*each || seen[v] {
					t.Fatal(name, v)
				}
				seen[v] = true
			}
		}
		if c.Total() != crowd*each || c.All()[n-1] != crowd*each {
			t.Error(name, c.All())
		}
	}
}

// TestFreeSums is P5.6: while others add alone, sums rise, and none is more than what was added by its end; so do those of Even.
func TestFreeSums(t *testing.T) {
	const each = 3000
	for name, c := range counters() {
		together(func(thread int) {
			last := int64(0)
			for i := range each {
				if thread%2 == 0 {
					c.Add(nil, i*(thread+1), int64(thread))
					continue
				}
				n := c.Sum(nil)
				if n < last || n > c.Sum(nil) {
					t.Error(name, n, last)
				}
				last = n
				if n, ok := c.Even(nil); ok && (n < last || n > c.Sum(nil)) || !ok && n != 0 {
					t.Error(name, n, ok)
				}
			}
		})
		if want := int64(each * (0 + 2 + 4 + 6)); c.Total() != want {
			t.Error(name, c.Total(), want)
		}
	}
}

// TestFreeTakes is P5.6: what has been taken and what is left is what was there and was added; what is moved is not lost.
func TestFreeTakes(t *testing.T) {
	const each = 5000
	for name, c := range counters() {
		c.Add(nil, 0, 1000)
		var taken, added [crowd]int64
		together(func(thread int) {
			for i := range each {
				at, v := thread+i, int64(i%7-2)
				c.Add(nil, at, v)
				added[thread] += v
				c.Move(nil, at, -i, int64(thread))
				if i%3 == 0 {
					taken[thread] += c.Take(nil)
				}
			}
		})
		if got, want := total(taken[:])+c.Total(), 1000+total(added[:]); got != want {
			t.Error(name, got, want)
		}
	}
}
