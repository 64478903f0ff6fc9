package cell_test

import (
	"testing"

	"carillon/cell"
	"carillon/turn"
)

// TestFlagSteps: each call is one step, and what is done is done behind its Step: on what comes between.
func TestFlagSteps(t *testing.T) {
	for _, x := range []struct {
		name  string
		call  func(f *cell.Flag, s turn.Stepper) bool
		at    bool
		ok    bool
		after bool
	}{
		{"Load of no", (*cell.Flag).Load, false, false, false},
		{"Load of yes", (*cell.Flag).Load, true, true, true},
		{"Set of no", (*cell.Flag).Set, false, true, true},
		{"Set of yes", (*cell.Flag).Set, true, false, true},
		{"Clear of no", (*cell.Flag).Clear, false, false, false},
		{"Clear of yes", (*cell.Flag).Clear, true, true, false},
	} {
		f := cell.NewFlag(!x.at)
		m := &meddler{at: map[int]func(){1: func() {
			if x.at {
				f.Set(nil)
			} else {
				f.Clear(nil)
			}
		}}}
		if ok := x.call(f, m); ok != x.ok || f.Value() != x.after || m.steps != 1 {
			t.Error(x.name, ok, f.Value(), m.steps)
		}
		g := cell.NewFlag(x.at)
		if g.Value() != x.at {
			t.Error(x.name, "at first", g.Value())
		}
		if ok := x.call(g, nil); ok != x.ok || g.Value() != x.after || g.Load(nil) != x.after {
			t.Error(x.name, "without a Stepper", ok, g.Value())
		}
	}
}

func TestZeroAndNilFlag(t *testing.T) {
	var zero cell.Flag
	if zero.Value() || zero.Load(nil) || zero.Clear(nil) || !zero.Set(nil) || zero.Set(nil) || !zero.Value() || !zero.Clear(nil) || zero.Value() {
		t.Error("the zero Flag", zero.Value())
	}
	var none *cell.Flag
	m := &meddler{}
	for range 2 {
		if none.Value() || none.Load(m) || none.Set(m) || none.Clear(m) || none.Set(nil) || none.Load(nil) || none.Value() {
			t.Error("nil answers yes")
		}
	}
	if m.steps != 0 {
		t.Error("steps of nil", m.steps)
	}
}

// TestFlagsFree: of those who set a flag at one time one alone finds it no; and who clears it finds each Set once.
func TestFlagsFree(t *testing.T) {
	flags := make([]cell.Flag, 2000)
	var back cell.Flag
	first := make([][]int, crowd)
	turns := make([]int, crowd)
	together(func(n int) {
		for i := range flags {
			if flags[i].Set(nil) {
				first[n] = append(first[n], i)
			}
			if back.Set(nil) {
				turns[n]++
			}
			if back.Clear(nil) {
				turns[n]--
			}
		}
	})
	seen := make([]int, len(flags))
	for _, own := range first {
		for _, i := range own {
			seen[i]++
		}
	}
	for i, n := range seen {
		if n != 1 || !flags[i].Value() {
			t.Fatal(i, n, flags[i].Value())
		}
	}
	left := 0
	for _, n := range turns {
		left += n
	}
	if left != 0 || back.Value() {
		t.Error(left, back.Value())
	}
}
