package cell_test

import (
	"slices"
	"testing"

	"carillon/cell"
	"carillon/turn"
)

// TestBoxSteps: each call is one step, and what is done is done behind its Step: on the "between" that comes between.
func TestBoxSteps(t *testing.T) {
	var between, first cell.Held[string]
	for _, x := range []struct {
		name   string
		call   func(b *cell.Box[string], s turn.Stepper) any
		answer any
		after  string
	}{
		{"Load", func(b *cell.Box[string], s turn.Stepper) any { return b.Load(s).Value() }, "between", "between"},
		{"Store", func(b *cell.Box[string], s turn.Stepper) any { b.Store(s, "new"); return nil }, nil, "new"},
		{"Swap", func(b *cell.Box[string], s turn.Stepper) any { return b.Swap(s, "new") }, "between", "new"},
		{"Cas of what was there", func(b *cell.Box[string], s turn.Stepper) any { return b.Cas(s, first, "new") }, false, "between"},
		{"Cas of the zero Held", func(b *cell.Box[string], s turn.Stepper) any { return b.Cas(s, cell.Held[string]{}, "new") }, false, "between"},
		{"Cas of another box's", func(b *cell.Box[string], s turn.Stepper) any {
			return b.Cas(s, cell.NewBox("between").Load(nil), "new")
		}, false, "between"},
	} {
		b := cell.NewBox("first")
		first = b.Load(nil)
		m := &meddler{at: map[int]func(){1: func() { b.Store(nil, "between") }}}
		if got := x.call(b, m); got != x.answer || b.Value() != x.after || m.steps != 1 {
			t.Error(x.name, got, b.Value(), m.steps)
		}
	}
	b := cell.NewBox("first")
	m := &meddler{at: map[int]func(){2: func() { b.Store(nil, "between") }}}
	between = b.Load(m)
	if between.Value() != "first" || b.Cas(m, between, "new") || b.Value() != "between" || between.Value() != "first" || m.steps != 2 {
		t.Error(between.Value(), b.Value(), m.steps)
	}
	if h := b.Load(m); !b.Cas(m, h, "new") || b.Value() != "new" || h.Value() != "between" || m.steps != 4 {
		t.Error(b.Value(), m.steps)
	}
}

// checkBox does with a box of two values of some type what P2.4 says.
func checkBox[T any](t *testing.T, name string, b *cell.Box[T], first, other T, same func(a, b T) bool) {
	t.Helper()
	is := func(what string, got, want T) {
		t.Helper()
		if !same(got, want) {
			t.Error(name, what, got, want)
		}
	}
	is("at first", b.Value(), first)
	h := b.Load(nil)
	is("the Held", h.Value(), first)
	if b.Cas(nil, cell.Held[T]{}, other) {
		t.Error(name, "the zero Held lies there")
	}
	for what, another := range map[string]*cell.Box[T]{"new": cell.NewBox(first), "zero": {}} {
		if b.Cas(nil, another.Load(nil), other) || another.Cas(nil, h, other) || another.Cas(nil, cell.Held[T]{}, other) {
			t.Error(name, "a Held of another box", what)
		}
	}
	is("behind what isn't done", b.Value(), first)
	if !b.Cas(nil, h, first) || b.Cas(nil, h, other) {
		t.Error(name, "the same value laid there is another one")
	}
	h = b.Load(nil)
	again := b.Load(nil)
	if !b.Cas(nil, again, other) || b.Cas(nil, h, first) {
		t.Error(name, "loaded twice, laid once")
	}
	is("behind Cas", b.Value(), other)
	h = b.Load(nil)
	b.Store(nil, other)
	if b.Cas(nil, h, first) {
		t.Error(name, "a Store of the same value came between")
	}
	h = b.Load(nil)
	is("Swap", b.Swap(nil, first), other)
	is("Swap back", b.Swap(nil, other), first)
	if b.Cas(nil, h, first) {
		t.Error(name, "swapped there and back")
	}
	is("the Held stays", h.Value(), other)
	if h = b.Load(nil); !b.Cas(nil, h, first) {
		t.Error(name, "nothing came between")
	}
	is("at last", b.Load(nil).Value(), first)
}

func equal[T comparable](a, b T) bool { return a == b }

func TestBoxOfAnyType(t *testing.T) {
	type pair struct {
		name string
		n    [2]int
	}
	one, two := new(int), new(int)
	checkBox(t, "int", cell.NewBox(5), 5, 6, equal)
	checkBox(t, "the same int", cell.NewBox(5), 5, 5, equal)
	checkBox(t, "bool", cell.NewBox(true), true, false, equal)
	checkBox(t, "string", cell.NewBox("a"), "a", "", equal)
	checkBox(t, "struct", cell.NewBox(pair{"a", [2]int{1, 2}}), pair{"a", [2]int{1, 2}}, pair{}, equal)
	checkBox(t, "pointer", cell.NewBox(one), one, two, equal)
	checkBox(t, "nil pointer", cell.NewBox[*int](nil), nil, one, equal)
	checkBox(t, "interface", cell.NewBox[any](1), 1, any("x"), equal)
	checkBox(t, "nil interface", cell.NewBox[error](nil), nil, nil, equal)
	checkBox(t, "slice", cell.NewBox([]int{1}), []int{1}, nil, slices.Equal)
	checkBox(t, "function", cell.NewBox(func() int { return 1 }), func() int { return 1 }, func() int { return 2 }, func(a, b func() int) bool { return a() == b() })
	checkBox(t, "nothing", cell.NewBox(struct{}{}), struct{}{}, struct{}{}, equal)
	checkBox(t, "no elements", cell.NewBox([0]int{}), [0]int{}, [0]int{}, equal)
	checkBox(t, "map", cell.NewBox(map[int]int{1: 2}), map[int]int{1: 2}, nil, func(a, b map[int]int) bool { return len(a) == len(b) && a[1] == b[1] })
}

func TestZeroBoxes(t *testing.T) {
	checkBox(t, "int", &cell.Box[int]{}, 0, 6, equal)
	checkBox(t, "the zero value again", &cell.Box[int]{}, 0, 0, equal)
	checkBox(t, "string", &cell.Box[string]{}, "", "a", equal)
	checkBox(t, "slice", &cell.Box[[]int]{}, nil, []int{1}, slices.Equal)
	checkBox(t, "nothing", &cell.Box[struct{}]{}, struct{}{}, struct{}{}, equal)
	var x cell.Box[int]
	if x.Swap(nil, 5) != 0 || x.Value() != 5 {
		t.Error("Swap", x.Value())
	}
	var y cell.Box[int]
	h := y.Load(nil)
	y.Store(nil, 0)
	if y.Cas(nil, h, 1) || y.Value() != 0 {
		t.Error("the first value that is laid is another one than none")
	}
}

// TestHeld: a Held that was loaded is never the zero one, whatever the box; two that found one thing are one.
func TestHeld(t *testing.T) {
	var zero, other cell.Box[struct{}]
	made := cell.NewBox(struct{}{})
	none := cell.Held[struct{}]{}
	if zero.Load(nil) == none || made.Load(nil) == none || zero.Load(nil) == other.Load(nil) || zero.Load(nil) != zero.Load(nil) || made.Load(nil) != made.Load(nil) {
		t.Error("zero and new boxes")
	}
	h := made.Load(nil)
	made.Store(nil, struct{}{})
	if made.Load(nil) == h {
		t.Error("what was laid behind it is another one")
	}
	if none.Value() != (struct{}{}) || (cell.Held[int]{}).Value() != 0 || (cell.Held[string]{}).Value() != "" || (cell.Held[[]int]{}).Value() != nil || (cell.Held[*int]{}).Value() != nil {
		t.Error("the zero Held's Value")
	}
}

// TestHeldsOfManyBoxes: many boxes of a type without size are told apart.
func TestHeldsOfManyBoxes(t *testing.T) {
	boxes := make([]*cell.Box[struct{}], 50)
	helds := make([]cell.Held[struct{}], len(boxes))
	for i := range boxes {
		boxes[i] = cell.NewBox(struct{}{})
		if i%2 == 0 {
			boxes[i] = &cell.Box[struct{}]{}
		}
		helds[i] = boxes[i].Load(nil)
	}
	for i, b := range boxes {
		for j, h := range helds {
			if i != j && b.Cas(nil, h, struct{}{}) {
				t.Fatal(i, j)
			}
		}
		if !b.Cas(nil, helds[i], struct{}{}) || b.Cas(nil, helds[i], struct{}{}) {
			t.Fatal(i)
		}
	}
}

func TestNilBox(t *testing.T) {
	var none *cell.Box[int]
	m := &meddler{}
	none.Store(m, 5)
	h := none.Load(m)
	if h != (cell.Held[int]{}) || h.Value() != 0 || none.Value() != 0 || none.Swap(m, 5) != 0 || none.Cas(m, h, 5) || none.Cas(m, cell.NewBox(5).Load(nil), 5) || none.Cas(nil, cell.Held[int]{}, 5) {
		t.Error(h)
	}
	if none.Value() != 0 || none.Load(nil).Value() != 0 || m.steps != 0 || cell.NewBox(5).Cas(nil, h, 6) || new(cell.Box[int]).Cas(nil, h, 6) {
		t.Error(none.Value(), m.steps)
	}
	var text *cell.Box[[]string]
	if text.Value() != nil || text.Load(nil).Value() != nil || text.Swap(nil, []string{"a"}) != nil {
		t.Error(text.Value())
	}
}

// TestBoxCasFree: nothing that Cas has laid is lost, and no value is seen half.
func TestBoxCasFree(t *testing.T) {
	type sum struct{ n, twice int64 }
	b := cell.NewBox(sum{})
	together(func(int) {
		for range int64(each) {
			for {
				h := b.Load(nil)
				v := h.Value()
				if v.twice != 2*v.n {
					t.Error("torn", v)
				}
				if b.Cas(nil, h, sum{v.n + 1, v.twice + 2}) {
					break
				}
			}
		}
	})
	if b.Value() != (sum{crowd * each, 2 * crowd * each}) {
		t.Error(b.Value())
	}
}

// TestBoxSwapFree: each value that is laid is told once, or stands there at the end.
func TestBoxSwapFree(t *testing.T) {
	b := cell.NewBox(int64(0))
	told := make([]int64, crowd)
	together(func(n int) {
		sum := int64(0)
		for i := range int64(each) {
			sum += b.Swap(nil, i*crowd+int64(n))
		}
		told[n] = sum
	})
	if all := int64(crowd * each); total(told)+b.Value() != all*(all-1)/2 {
		t.Error(total(told), b.Value())
	}
}

// TestBoxClaimsFree: of those who have loaded the same thing of no size one alone lays the next one.
func TestBoxClaimsFree(t *testing.T) {
	boxes := make([]cell.Box[struct{}], each)
	done := make([]int64, crowd)
	helds := make([]cell.Held[struct{}], each)
	for i := range boxes {
		helds[i] = boxes[i].Load(nil)
	}
	together(func(n int) {
		for i := range boxes {
			if boxes[i].Cas(nil, helds[i], struct{}{}) {
				done[n]++
			}
		}
	})
	if total(done) != each {
		t.Error(total(done))
	}
}
