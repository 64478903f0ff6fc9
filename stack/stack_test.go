package stack_test

import (
	"fmt"
	"math"
	"slices"
	"testing"

	"carillon/api"
	"carillon/stack"
	"carillon/turn"
)

const crowd = 8

// told is what a call answers, of whichever kind.
type told struct {
	n   int64
	yes bool
}

type call = func(k *stack.Stack, s turn.Stepper) told

func push(v int64) call {
	return func(k *stack.Stack, s turn.Stepper) told { return told{yes: k.Push(s, v)} }
}

func pop(k *stack.Stack, s turn.Stepper) told {
	v, ok := k.Pop(s)
	return told{v, ok}
}

func peek(k *stack.Stack, s turn.Stepper) told {
	v, ok := k.Peek(s)
	return told{v, ok}
}

func empty(k *stack.Stack, s turn.Stepper) told { return told{yes: k.Empty(s)} }

// all does one behind the other, and tells what the last one tells.
func all(calls ...call) call {
	return func(k *stack.Stack, s turn.Stepper) told {
		var last told
		for _, do := range calls {
			last = do(k, s)
		}
		return last
	}
}

// holds makes a stack of that size onto which these were pushed.
func holds(size int, tagged bool, values ...int64) *stack.Stack {
	k := stack.New(size, tagged)
	for _, v := range values {
		k.Push(nil, v)
	}
	return k
}

// look is all that a thread that is alone sees: the four of Heads, and the values.
func look(k *stack.Stack) []int64 {
	head, tag, free, freeTag := k.Heads()
	return append([]int64{head, tag, free, freeTag}, k.Values()...)
}

// untagged is what a look would be without tags.
func untagged(seen []int64) []int64 {
	seen = slices.Clone(seen)
	seen[1], seen[3] = 0, 0
	return seen
}

// check holds a call's answer, its steps, when it is alone, and what it leaves against these.
func check(t *testing.T, k *stack.Stack, name string, do call, answer told, steps int, after ...int64) {
	t.Helper()
	before, counter := look(k), turn.NewCounter(api.MostSteps)
	if got := do(k, counter); got != answer || counter.Steps() != steps || !slices.Equal(look(k), after) {
		t.Errorf("%s of %v: %+v in %d steps, leaves %v; want %+v in %d, %v", name, before, got, counter.Steps(), look(k), answer, steps, after)
	}
}

// TestNew: what stands there at first, of every size.
func TestNew(t *testing.T) {
	for size, want := range map[int]int{
		math.MinInt: 1, -1 << 32: 1, -1: 1, 0: 1, 1: 1, 2: 2, 3: 3, 100: 100, api.MostSize - 1: api.MostSize - 1, api.MostSize: api.MostSize,
		api.MostSize + 1: api.MostSize, 1<<32 + 2: api.MostSize, math.MaxInt: api.MostSize,
	} {
		for _, tagged := range []bool{true, false} {
			k := stack.New(size, tagged)
			if k.Size() != want || !slices.Equal(look(k), []int64{-1, 0, 0, 0}) || !k.Empty(nil) {
				t.Error(size, tagged, k.Size(), look(k))
			}
			if other := stack.New(size, tagged); !k.Push(nil, 5) || !other.Empty(nil) || k.Size() != want {
				t.Error(size, tagged, "two stacks share their nodes, or the size has changed")
			}
		}
	}
}

// TestFillAndEmpty: nodes are taken in order at first, and as many as there are; what comes last goes first.
func TestFillAndEmpty(t *testing.T) {
	for _, size := range []int{1, 2, 3, 64, 1000, api.MostSize} {
		for _, tagged := range []bool{true, false} {
			k := stack.New(size, tagged)
			var want []int64
			for i := range size {
				v := int64(i*i - 5)
				if !k.Push(nil, v) {
					t.Fatal(size, i)
				}
				want = append(want, v)
			}
			slices.Reverse(want)
			tag := int64(size)
			if !tagged {
				tag = 0
			}
			if got := look(k); !slices.Equal(got[:4], []int64{int64(size - 1), tag, -1, tag}) || !slices.Equal(got[4:], want) {
				t.Error(size, got[:4])
			}
			check(t, k, "Push", push(9), told{}, 1, look(k)...)
			for i, v := range want {
				top, there := k.Peek(nil)
				if got, ok := k.Pop(nil); got != v || !ok || top != v || !there || k.Empty(nil) != (i == size-1) {
					t.Fatal(size, i, got, ok, top, there)
				}
			}
			check(t, k, "Pop", pop, told{}, 1, look(k)...)
			check(t, k, "Peek", peek, told{}, 1, look(k)...)
			if got := look(k); !slices.Equal(got, []int64{-1, 2 * tag, 0, 2 * tag}) {
				t.Error(size, got)
			}
		}
	}
}

// TestPushAndPop is P6.1 and P6.2 of a thread that is alone, by steps and by what is left.
func TestPushAndPop(t *testing.T) {
	k := stack.New(2, true)
	check(t, k, "Pop of none", pop, told{}, 1, -1, 0, 0, 0)
	check(t, k, "Push", push(5), told{yes: true}, 7, 0, 1, 1, 1, 5)
	check(t, k, "Push", push(6), told{yes: true}, 7, 1, 2, -1, 2, 6, 5)
	check(t, k, "Push, full", push(7), told{}, 1, 1, 2, -1, 2, 6, 5)
	check(t, k, "Pop", pop, told{6, true}, 7, 0, 3, 1, 3, 5)
	check(t, k, "Push again", push(math.MinInt64), told{yes: true}, 7, 1, 4, -1, 4, math.MinInt64, 5)
	check(t, k, "Pop", pop, told{math.MinInt64, true}, 7, 0, 5, 1, 5, 5)
	check(t, k, "Pop", pop, told{5, true}, 7, -1, 6, 0, 6)
	check(t, k, "Push at the node that came back last", push(math.MaxInt64), told{yes: true}, 7, 0, 7, 1, 7, math.MaxInt64)
	check(t, k, "Push of 0", push(0), told{yes: true}, 7, 1, 8, -1, 8, 0, math.MaxInt64)
	check(t, k, "Pop of 0", pop, told{0, true}, 7, 0, 9, 1, 9, math.MaxInt64)
}

// TestWithoutTags: the same, but that all tags are 0.
func TestWithoutTags(t *testing.T) {
	k := stack.New(2, false)
	check(t, k, "Push", push(5), told{yes: true}, 7, 0, 0, 1, 0, 5)
	check(t, k, "Push", push(6), told{yes: true}, 7, 1, 0, -1, 0, 6, 5)
	check(t, k, "Push, full", push(7), told{}, 1, 1, 0, -1, 0, 6, 5)
	check(t, k, "Peek", peek, told{6, true}, 3, 1, 0, -1, 0, 6, 5)
	check(t, k, "Pop", pop, told{6, true}, 7, 0, 0, 1, 0, 5)
	check(t, k, "Pop", pop, told{5, true}, 7, -1, 0, 0, 0)
	check(t, k, "Pop of none", pop, told{}, 1, -1, 0, 0, 0)
	check(t, k, "Peek of none", peek, told{}, 1, -1, 0, 0, 0)
}

// TestPeekAndEmpty is P6.3 of a thread that is alone.
func TestPeekAndEmpty(t *testing.T) {
	k := holds(3, true)
	check(t, k, "Peek of none", peek, told{}, 1, -1, 0, 0, 0)
	check(t, k, "Empty of none", empty, told{yes: true}, 1, -1, 0, 0, 0)
	k.Push(nil, -8)
	check(t, k, "Peek", peek, told{-8, true}, 3, 0, 1, 1, 1, -8)
	check(t, k, "Empty", empty, told{}, 1, 0, 1, 1, 1, -8)
	k.Push(nil, 0)
	check(t, k, "Peek of 0", peek, told{0, true}, 3, 1, 2, 2, 2, 0, -8)
	k.Pop(nil)
	k.Pop(nil)
	check(t, k, "Peek of none again", peek, told{}, 1, -1, 4, 0, 4)
	check(t, k, "Empty again", empty, told{yes: true}, 1, -1, 4, 0, 4)
}

// TestTagsRise: each turn of a head is one more.
func TestTagsRise(t *testing.T) {
	k := holds(4, true, 1, 2)
	for i := range int64(100000) {
		k.Push(nil, i)
		if _, tag, _, freeTag := k.Heads(); tag != 2*i+3 || freeTag != tag {
			t.Fatal(i, tag, freeTag)
		}
		k.Pop(nil)
		if _, tag, _, freeTag := k.Heads(); tag != 2*i+4 || freeTag != tag {
			t.Fatal(i, tag, freeTag)
		}
	}
}

// TestValuesAreNew: no answer shares memory with another one, or with the stack.
func TestValuesAreNew(t *testing.T) {
	k := holds(5, true, 1, 2, 3)
	first, second := k.Values(), k.Values()
	whole := first[:cap(first)]
	for i := range whole {
		whole[i] = -1
	}
	if !slices.Equal(second, []int64{3, 2, 1}) || !slices.Equal(k.Values(), []int64{3, 2, 1}) {
		t.Error(second, k.Values())
	}
	k.Pop(nil)
	if !slices.Equal(second, []int64{3, 2, 1}) {
		t.Error("an answer changes with the stack", second)
	}
}

// watcher logs ahead of each step what is to be seen by then; at some of them something comes between behind the look.
type watcher struct {
	stack *stack.Stack
	log   [][]int64
	at    map[int]func()
}

func (w *watcher) Step() {
	w.log = append(w.log, look(w.stack))
	if f := w.at[len(w.log)]; f != nil {
		f()
	}
}

// TestStepsInOrder: what is to be seen ahead of each step, and behind the last: Step is called right ahead of it, and without a Stepper the answers are the same.
func TestStepsInOrder(t *testing.T) {
	one, full := []int64{0, 1, 1, 1, 5}, []int64{1, 2, -1, 2, 6, 5}
	for _, x := range []struct {
		name   string
		values []int64
		call   call
		answer told
		states [][]int64 // ahead of each step, and at the end
	}{
		{"Push", []int64{5}, push(9), told{yes: true}, [][]int64{one, one, one, {0, 1, -1, 2, 5}, {0, 1, -1, 2, 5}, {0, 1, -1, 2, 5}, {0, 1, -1, 2, 5}, {1, 2, -1, 2, 9, 5}}},
		{"Push, full", []int64{5, 6}, push(9), told{}, [][]int64{full, full}},
		{"Pop", []int64{5, 6}, pop, told{6, true}, [][]int64{full, full, full, {0, 3, -1, 2, 5}, {0, 3, -1, 2, 5}, {0, 3, -1, 2, 5}, {0, 3, -1, 2, 5}, {0, 3, 1, 3, 5}}},
		{"Pop of none", nil, pop, told{}, [][]int64{{-1, 0, 0, 0}, {-1, 0, 0, 0}}},
		{"Peek", []int64{5}, peek, told{5, true}, [][]int64{one, one, one, one}},
		{"Peek of none", nil, peek, told{}, [][]int64{{-1, 0, 0, 0}, {-1, 0, 0, 0}}},
		{"Empty", []int64{5}, empty, told{}, [][]int64{one, one}},
		{"Empty of none", nil, empty, told{yes: true}, [][]int64{{-1, 0, 0, 0}, {-1, 0, 0, 0}}},
	} {
		for _, tagged := range []bool{true, false} {
			states := x.states
			if !tagged {
				states = nil
				for _, seen := range x.states {
					states = append(states, untagged(seen))
				}
			}
			k := holds(2, tagged, x.values...)
			w := &watcher{stack: k}
			if got := x.call(k, w); got != x.answer || !slices.EqualFunc(append(w.log, look(k)), states, slices.Equal) {
				t.Error(x.name, tagged, got, w.log, look(k))
			}
			k = holds(2, tagged, x.values...)
			if got := x.call(k, nil); got != x.answer || !slices.Equal(look(k), states[len(states)-1]) {
				t.Error(x.name, tagged, "without a Stepper", got, look(k))
			}
		}
	}
}

// between is a call at one of whose steps another one comes between.
type between struct {
	name   string
	size   int
	values []int64
	call   call
	ahead  int
	other  call
	answer told
	steps  int
	after  []int64
}

func (x between) check(t *testing.T, tagged bool) {
	t.Helper()
	k := holds(x.size, tagged, x.values...)
	w := &watcher{stack: k, at: map[int]func(){x.ahead: func() { x.other(k, nil) }}}
	if got := x.call(k, w); got != x.answer || len(w.log) != x.steps || !slices.Equal(look(k), x.after) {
		t.Error(x.name, got, len(w.log), look(k))
	}
}

// TestBetweenTheSteps: what another one does right ahead of a step is what that step finds.
func TestBetweenTheSteps(t *testing.T) {
	for _, x := range []between{
		{"Push, another one ahead of S1", 3, nil, push(9), 1, push(8), told{yes: true}, 7, []int64{1, 2, 2, 2, 9, 8}},
		{"Push, all taken ahead of S1", 1, nil, push(9), 1, push(8), told{}, 1, []int64{0, 1, -1, 1, 8}},
		{"Push, another one ahead of S2", 3, nil, push(9), 2, push(8), told{yes: true}, 10, []int64{1, 2, 2, 2, 9, 8}},
		{"Push, another one ahead of S3", 3, nil, push(9), 3, push(8), told{yes: true}, 10, []int64{1, 2, 2, 2, 9, 8}},
		{"Push, all taken ahead of S3", 1, nil, push(9), 3, push(8), told{}, 4, []int64{0, 1, -1, 1, 8}},
		{"Push, the same node is free again", 3, nil, push(9), 3, all(push(8), pop), told{yes: true}, 10, []int64{0, 3, 1, 3, 9}},
		{"Push, another one ahead of S4", 3, nil, push(9), 4, push(8), told{yes: true}, 7, []int64{0, 2, 2, 2, 9, 8}},
		{"Push, another one ahead of S5", 3, nil, push(9), 5, push(8), told{yes: true}, 7, []int64{0, 2, 2, 2, 9, 8}},
		{"Push, another one ahead of S6", 3, nil, push(9), 6, push(8), told{yes: true}, 10, []int64{0, 2, 2, 2, 9, 8}},
		{"Push, another one ahead of S7", 3, nil, push(9), 7, push(8), told{yes: true}, 10, []int64{0, 2, 2, 2, 9, 8}},
		{"Push, emptied ahead of S7", 3, []int64{5}, push(9), 7, pop, told{yes: true}, 10, []int64{1, 3, 0, 3, 9}},
		{"Push, the head has the same node again", 3, []int64{5}, push(9), 7, all(pop, push(6)), told{yes: true}, 10, []int64{1, 4, 2, 4, 9, 6}},
		{"Pop, another one ahead of S1", 3, []int64{5, 6}, pop, 1, pop, told{5, true}, 7, []int64{-1, 4, 0, 4}},
		{"Pop, all popped ahead of S1", 3, []int64{5}, pop, 1, pop, told{}, 1, []int64{-1, 2, 0, 2}},
		{"Pop, another one ahead of S2", 3, []int64{5, 6}, pop, 2, pop, told{5, true}, 10, []int64{-1, 4, 0, 4}},
		{"Pop, another one ahead of S3", 3, []int64{5, 6}, pop, 3, pop, told{5, true}, 10, []int64{-1, 4, 0, 4}},
		{"Pop, all popped ahead of S3", 3, []int64{5}, pop, 3, pop, told{}, 4, []int64{-1, 2, 0, 2}},
		{"Pop, pushed ahead of S3", 3, []int64{5}, pop, 3, push(7), told{7, true}, 10, []int64{0, 3, 1, 3, 5}},
		{"Pop, the head has the same node again", 3, []int64{5}, pop, 3, all(pop, push(7)), told{7, true}, 10, []int64{-1, 4, 0, 4}},
		{"Pop, another one ahead of S4", 3, []int64{5, 6}, pop, 4, pop, told{6, true}, 7, []int64{-1, 4, 1, 4}},
		{"Pop, its node isn't free ahead of S4", 1, []int64{5}, pop, 4, push(7), told{5, true}, 7, []int64{-1, 2, 0, 2}},
		{"Pop, another one ahead of S5", 3, []int64{5, 6}, pop, 5, pop, told{6, true}, 7, []int64{-1, 4, 1, 4}},
		{"Pop, another one ahead of S6", 3, []int64{5, 6}, pop, 6, pop, told{6, true}, 10, []int64{-1, 4, 1, 4}},
		{"Pop, another one ahead of S7", 3, []int64{5, 6}, pop, 7, pop, told{6, true}, 10, []int64{-1, 4, 1, 4}},
		{"Pop, the free head has the same node again", 3, []int64{5}, pop, 7, all(push(7), pop), told{5, true}, 10, []int64{-1, 4, 0, 4}},
		{"Peek, pushed ahead of S1", 3, []int64{5}, peek, 1, push(7), told{7, true}, 3, []int64{1, 2, 2, 2, 7, 5}},
		{"Peek, popped ahead of S1", 3, []int64{5}, peek, 1, pop, told{}, 1, []int64{-1, 2, 0, 2}},
		{"Peek, pushed ahead of S2", 3, []int64{5}, peek, 2, push(7), told{7, true}, 5, []int64{1, 2, 2, 2, 7, 5}},
		{"Peek, pushed ahead of S3", 3, []int64{5}, peek, 3, push(7), told{7, true}, 5, []int64{1, 2, 2, 2, 7, 5}},
		{"Peek, popped ahead of S3", 3, []int64{5}, peek, 3, pop, told{}, 3, []int64{-1, 2, 0, 2}},
		{"Peek, popped ahead of S2", 3, []int64{5, 6}, peek, 2, pop, told{5, true}, 5, []int64{0, 3, 1, 3, 5}},
		{"Peek, the head has the same node again", 3, []int64{5}, peek, 3, all(pop, push(7)), told{7, true}, 5, []int64{0, 3, 1, 3, 7}},
		{"Peek, changed and the same value again", 3, []int64{5}, peek, 2, all(pop, push(5)), told{5, true}, 5, []int64{0, 3, 1, 3, 5}},
		{"Empty, pushed ahead of it", 3, nil, empty, 1, push(7), told{}, 1, []int64{0, 1, 1, 1, 7}},
		{"Empty, popped ahead of it", 3, []int64{5}, empty, 1, pop, told{yes: true}, 1, []int64{-1, 2, 0, 2}},
	} {
		x.check(t, true)
	}
}

// TestEachTryAgain: Peek goes on from what its S3 has loaded, as often as another one comes between.
func TestEachTryAgain(t *testing.T) {
	k := holds(9, true, 5)
	w := &watcher{stack: k, at: map[int]func(){}}
	for i := range int64(4) {
		w.at[int(3+2*i)] = func() { k.Push(nil, 6+i) }
	}
	if got := peek(k, w); got != (told{9, true}) || len(w.log) != 11 {
		t.Error(got, len(w.log))
	}
}

// TestTakenForTheSame: without tags no step tells a head from one that looks the same.
func TestTakenForTheSame(t *testing.T) {
	for _, x := range []between{
		{"Push, the same node is free again", 3, nil, push(9), 3, all(push(8), pop), told{yes: true}, 7, []int64{0, 0, 1, 0, 9}},
		{"Push, the head has the same node again", 3, []int64{5}, push(9), 7, all(pop, push(6)), told{yes: true}, 7, []int64{1, 0, 2, 0, 9, 6}},
		{"Pop, the head has the same node again", 3, []int64{5}, pop, 3, all(pop, push(7)), told{7, true}, 7, []int64{-1, 0, 0, 0}},
		{"Pop, the free head has the same node again", 3, []int64{5}, pop, 7, all(push(7), pop), told{5, true}, 7, []int64{-1, 0, 0, 0}},
		{"Peek, the head has the same node again", 3, []int64{5}, peek, 3, all(pop, push(7)), told{5, true}, 3, []int64{0, 0, 1, 0, 7}},
	} {
		x.check(t, false)
	}
}

// TestEndedWithin: a thread that is ended at a step has done those ahead of it, and nothing that lies behind; the others go on without it.
func TestEndedWithin(t *testing.T) {
	for _, x := range []struct {
		name  string
		call  call
		after [][]int64 // by how many steps it may do
		room  int       // nodes that are left for others behind S3
	}{
		{"Push", push(9), [][]int64{{0, 1, 1, 1, 5}, {0, 1, 1, 1, 5}, {0, 1, 1, 1, 5}, {0, 1, 2, 2, 5}, {0, 1, 2, 2, 5}, {0, 1, 2, 2, 5}, {0, 1, 2, 2, 5}}, 1},
		{"Pop", pop, [][]int64{{0, 1, 1, 1, 5}, {0, 1, 1, 1, 5}, {0, 1, 1, 1, 5}, {-1, 2, 1, 1}, {-1, 2, 1, 1}, {-1, 2, 1, 1}, {-1, 2, 1, 1}}, 2},
		{"Peek", peek, slices.Repeat([][]int64{{0, 1, 1, 1, 5}}, 3), 2},
		{"Empty", empty, slices.Repeat([][]int64{{0, 1, 1, 1, 5}}, 1), 2},
	} {
		for most, after := range x.after {
			k := holds(3, true, 5)
			if turn.Alone(turn.NewCounter(most), func(s turn.Stepper) { x.call(k, s) }) || !slices.Equal(look(k), after) {
				t.Error(x.name, most, look(k))
			}
			room := 2
			if most > 2 {
				room = x.room
			}
			for i := range room {
				if !k.Push(nil, int64(i)) {
					t.Error(x.name, most, i)
				}
			}
			if k.Push(nil, 7) {
				t.Error(x.name, most, "a node too many")
			}
		}
	}
}

// TestNil is P6.7, and R1 for what it says nothing of.
func TestNil(t *testing.T) {
	var none *stack.Stack
	if none.Size() != 0 || len(none.Values()) != 0 {
		t.Error(none.Size(), none.Values())
	}
	for name, x := range edges() {
		check(t, none, name, x.call, x.answer, 0, 0, 0, 0, 0)
		if got := x.call(none, nil); got != x.answer {
			t.Error(name, got)
		}
	}
}

type edge struct {
	call   call
	answer told
}

// edges is what a stack without nodes answers.
func edges() map[string]edge {
	return map[string]edge{
		"Push": {push(5), told{}}, "Push of 0": {push(0), told{}}, "Push of the least": {push(math.MinInt64), told{}},
		"Pop": {pop, told{}}, "Peek": {peek, told{}}, "Empty": {empty, told{yes: true}},
	}
}

// TestZero is P6.7: the zero Stack is one of the size 0, which does its S1.
func TestZero(t *testing.T) {
	k := &stack.Stack{}
	if k.Size() != 0 || len(k.Values()) != 0 {
		t.Error(k.Size(), k.Values())
	}
	for name, x := range edges() {
		for range 2 {
			check(t, k, name, x.call, x.answer, 1, -1, 0, -1, 0)
		}
		if got := x.call(k, nil); got != x.answer {
			t.Error(name, got)
		}
	}
}

func TestExamples(t *testing.T) {
	k := stack.New(2, true)
	for i, want := range []bool{true, true, false} {
		if k.Push(nil, int64(5+i)) != want {
			t.Error(i)
		}
	}
	check(t, k, "Pop", pop, told{6, true}, 7, 0, 3, 1, 3, 5)
}

// together lets so many goroutines go at one time.
func together(do func(n int)) {
	threads := make([]func(s turn.Stepper), crowd)
	for n := range threads {
		threads[n] = func(turn.Stepper) { do(n) }
	}
	turn.Go(threads)
}

// rest pops all that is left, and then sees that no node is lost or double.
func rest(t *testing.T, k *stack.Stack) []int64 {
	t.Helper()
	want, left := k.Values(), []int64(nil)
	for v, ok := k.Pop(nil); ok; v, ok = k.Pop(nil) {
		left = append(left, v)
	}
	if !slices.Equal(left, want) || !k.Empty(nil) {
		t.Error(left, want)
	}
	for i := range k.Size() {
		if !k.Push(nil, int64(i)) {
			t.Error("nodes are lost", i, k.Size())
		}
	}
	if k.Push(nil, 0) || len(k.Values()) != k.Size() {
		t.Error("a node is double")
	}
	return left
}

// TestFreeCrowd is P6.5: what many push is popped once, or is left, and no node is lost.
func TestFreeCrowd(t *testing.T) {
	const each = 20000
	for _, size := range []int{1, 2, 3, crowd, 1000} {
		k := stack.New(size, true)
		var pushed, popped [crowd][]int64
		together(func(thread int) {
			for i := range each {
				v := int64(thread*each + i + 1)
				if k.Push(nil, v) {
					pushed[thread] = append(pushed[thread], v)
				}
				if v, ok := k.Peek(nil); ok && (v < 1 || v > crowd*each) || !ok && v != 0 {
					t.Error("Peek", v, ok)
				}
				if v, ok := k.Pop(nil); ok {
					popped[thread] = append(popped[thread], v)
				} else if v != 0 {
					t.Error("Pop", v)
				}
			}
		})
		in, out := slices.Concat(pushed[:]...), slices.Concat(popped[:]...)
		out = append(out, rest(t, k)...)
		slices.Sort(in)
		slices.Sort(out)
		if !slices.Equal(in, out) || len(in) == 0 {
			t.Error(size, fmt.Sprintf("%d were pushed, and %d popped or left", len(in), len(out)))
		}
	}
}

// TestFreeOrder: while others pop alone, none of them sees what one thread has pushed in the order in which it was.
func TestFreeOrder(t *testing.T) {
	k := stack.New(api.MostSize, true)
	for i := range int64(api.MostSize) {
		k.Push(nil, i)
	}
	var popped [crowd][]int64
	together(func(thread int) {
		for v, ok := k.Pop(nil); ok; v, ok = k.Pop(nil) {
			popped[thread] = append(popped[thread], v)
		}
	})
	for thread, list := range popped {
		if !slices.IsSortedFunc(list, func(a, b int64) int { return int(b - a) }) {
			t.Error(thread, "not from the top down")
		}
	}
	every := slices.Concat(popped[:]...)
	slices.Sort(every)
	if len(every) != api.MostSize || len(slices.Compact(every)) != api.MostSize {
		t.Error(len(every))
	}
}
