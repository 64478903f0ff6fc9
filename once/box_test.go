package once_test

import (
	"slices"
	"testing"

	"carillon/once"
	"carillon/turn"
)

// meddler counts the steps that are asked for; at some of them, right ahead of the step, something comes between.
type meddler struct {
	steps int
	at    map[int]func()
}

func (m *meddler) Step() {
	m.steps++
	if f := m.at[m.steps]; f != nil {
		f()
	}
}

func TestBoxSteps(t *testing.T) {
	for _, x := range []struct {
		name  string
		there []string
		ahead int
		set   bool
		v     string
		ok    bool
		steps int
		after string
	}{
		{"Get of an empty box", nil, 0, false, "", false, 1, ""},
		{"Get of a full box", []string{"a"}, 0, false, "a", true, 1, "a"},
		{"Get of a box that holds the zero value", []string{""}, 0, false, "", true, 1, ""},
		{"Get, set ahead of S1", nil, 1, false, "other", true, 1, "other"},
		{"Set of an empty box", nil, 0, true, "new", true, 1, "new"},
		{"Set, set ahead of S1", nil, 1, true, "other", false, 2, "other"},
		{"Set of a full box", []string{"a"}, 0, true, "a", false, 2, "a"},
		{"Set of a box that holds the zero value", []string{""}, 0, true, "", false, 2, ""},
		{"Set of the same again", []string{"new"}, 0, true, "new", false, 2, "new"},
		{"Set, set ahead of S2", []string{"a"}, 2, true, "a", false, 2, "a"},
	} {
		b := once.NewBox[string]()
		for _, v := range x.there {
			b.Set(nil, v)
		}
		m := &meddler{at: map[int]func(){x.ahead: func() { b.Set(nil, "other") }}}
		call := func(s turn.Stepper) (string, bool) {
			if x.set {
				return b.Set(s, "new")
			}
			return b.Get(s)
		}
		if v, ok := call(m); v != x.v || ok != x.ok || m.steps != x.steps {
			t.Error(x.name, v, ok, m.steps)
		}
		if v, _ := b.Get(nil); v != x.after {
			t.Error(x.name, "after", v)
		}
	}
}

// TestBoxEnded: a Set that is ended at its step hasn't laid anything.
func TestBoxEnded(t *testing.T) {
	b := once.NewBox[int]()
	if turn.Alone(turn.NewCounter(0), func(s turn.Stepper) { b.Set(s, 7) }) {
		t.Error("has come back")
	}
	if v, ok := b.Get(nil); v != 0 || ok {
		t.Error(v, ok)
	}
	if !turn.Alone(turn.NewCounter(1), func(s turn.Stepper) { b.Set(s, 8) }) {
		t.Error("not alone in one step")
	}
	if turn.Alone(turn.NewCounter(1), func(s turn.Stepper) { b.Set(s, 9) }) {
		t.Error("the second one in one step")
	}
}

// checkBox does with a box of some type what P3.5 says.
func checkBox[T any](t *testing.T, name string, first, other T, same func(a, b T) bool) {
	t.Helper()
	var zero T
	for i, b := range []*once.Box[T]{once.NewBox[T](), {}} {
		if v, ok := b.Get(nil); ok || !same(v, zero) {
			t.Error(name, i, "empty", v, ok)
		}
		if v, ok := b.Set(nil, first); !ok || !same(v, first) {
			t.Error(name, i, "the first Set", v, ok)
		}
		for range 2 {
			if v, ok := b.Set(nil, other); ok || !same(v, first) {
				t.Error(name, i, "the next Set", v, ok)
			}
			if v, ok := b.Get(nil); !ok || !same(v, first) {
				t.Error(name, i, "full", v, ok)
			}
		}
	}
	var none *once.Box[T]
	m := &meddler{}
	for range 2 {
		if v, ok := none.Set(m, first); ok || !same(v, zero) {
			t.Error(name, "Set of nil", v, ok)
		}
		if v, ok := none.Get(m); ok || !same(v, zero) {
			t.Error(name, "Get of nil", v, ok)
		}
	}
	if m.steps != 0 {
		t.Error(name, "steps of nil", m.steps)
	}
}

func TestBoxOfAnyType(t *testing.T) {
	type pair struct {
		n    int
		text string
	}
	checkBox(t, "int", 7, 8, func(a, b int) bool { return a == b })
	checkBox(t, "the zero int", 0, 8, func(a, b int) bool { return a == b })
	checkBox(t, "string", "a", "", func(a, b string) bool { return a == b })
	checkBox(t, "struct", pair{1, "a"}, pair{}, func(a, b pair) bool { return a == b })
	checkBox(t, "without size", struct{}{}, struct{}{}, func(a, b struct{}) bool { return true })
	checkBox(t, "array without size", [0]int{}, [0]int{}, func(a, b [0]int) bool { return true })
	checkBox(t, "slice", []int{1, 2}, nil, func(a, b []int) bool { return slices.Equal(a, b) && (a == nil) == (b == nil) })
	checkBox(t, "nil slice", nil, []int{1}, func(a, b []int) bool { return (a == nil) == (b == nil) })
	checkBox(t, "pointer", &pair{}, nil, func(a, b *pair) bool { return a == b })
	checkBox(t, "nil pointer", nil, &pair{}, func(a, b *pair) bool { return a == b })
	checkBox(t, "interface", any(7), any("a"), func(a, b any) bool { return a == b })
	checkBox(t, "nil interface", nil, any("a"), func(a, b any) bool { return a == b })
	checkBox(t, "function", func() {}, nil, func(a, b func()) bool { return (a == nil) == (b == nil) })
}

// TestBoxKeepsItsValue: what is in the box isn't the caller's variable, and what is told isn't the box's.
func TestBoxKeepsItsValue(t *testing.T) {
	v := [2]int{1, 2}
	b := once.NewBox[[2]int]()
	laid, _ := b.Set(nil, v)
	v[0], laid[0] = 9, 8
	there, _ := b.Get(nil)
	there[1] = 7
	if got, ok := b.Get(nil); got != [2]int{1, 2} || !ok {
		t.Error(got, ok)
	}
}

func TestBoxBySchedule(t *testing.T) {
	for _, x := range []struct {
		schedule []int
		answers  [3]int
		firsts   [3]bool
		steps    int
	}{
		{[]int{0, 1, 2}, [3]int{10, 10, 10}, [3]bool{true, false, true}, 4},
		{[]int{1, 0, 0, 2}, [3]int{11, 11, 11}, [3]bool{false, true, true}, 4},
		{[]int{2, 1, 0}, [3]int{11, 11, 0}, [3]bool{false, true, false}, 4},
	} {
		b := once.NewBox[int]()
		var answers [3]int
		var firsts [3]bool
		order, stuck, _ := turn.Over([]func(s turn.Stepper){
			func(s turn.Stepper) { answers[0], firsts[0] = b.Set(s, 10) },
			func(s turn.Stepper) { answers[1], firsts[1] = b.Set(s, 11) },
			func(s turn.Stepper) { answers[2], firsts[2] = b.Get(s) },
		}, x.schedule, 99)
		if answers != x.answers || firsts != x.firsts || len(order) != x.steps || stuck {
			t.Error(x.schedule, answers, firsts, order, stuck)
		}
	}
}

// TestBoxFree: of those who set a box at one time one alone lays its value, and all are told that.
func TestBoxFree(t *testing.T) {
	type wide struct{ a, b, c, d int }
	for round := range 2000 {
		b := once.NewBox[wide]()
		var first [crowd]bool
		var seen [crowd][]wide
		together(func(n int) {
			if v, ok := b.Get(nil); ok {
				seen[n] = append(seen[n], v)
			}
			v, ok := b.Set(nil, wide{n, n, n, n})
			first[n] = ok
			again, _ := b.Get(nil)
			seen[n] = append(seen[n], v, again)
		})
		winner := slices.Index(first[:], true)
		if winner < 0 || slices.Contains(first[winner+1:], true) {
			t.Fatal(round, first)
		}
		for n, all := range seen {
			for _, v := range all {
				if v != (wide{winner, winner, winner, winner}) {
					t.Fatal(round, n, winner, all)
				}
			}
		}
	}
}
