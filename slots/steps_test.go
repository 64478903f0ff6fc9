package slots_test

import (
	"slices"
	"testing"

	"carillon/slots"
)

// two is a ring with 7 and 8 in it.
func two() *slots.Ring { return filled(2, 7, 8) }

const fresh = "[0 0] [7 8]"

// TestOrder: what is to be seen ahead of each step: Step is called right ahead of it.
func TestOrder(t *testing.T) {
	round := func() *slots.Ring { return filled(2, 7, 8, 9) }
	one := func() *slots.Ring { return empty(1) }
	began := func() *slots.Ring { return stamped(1, 0) }
	const went, being = "[2 0] [9 8]", "[1 0] [100 101]"
	still := func(what string, steps int) []string { return slices.Repeat([]string{what}, steps+1) }
	for _, x := range []watched{
		{"Put", two, put(2, 9), nil, done, []string{fresh, "[1 0] [7 8]", "[1 0] [9 8]", went}},
		{"Put of the second slot", two, put(7, 9), nil, done, []string{fresh, "[0 5] [7 8]", "[0 5] [7 9]", "[0 6] [7 9]"}},
		{"Put of the first lap", one, put(0, 9), nil, done, []string{"[-2] [0]", "[-1] [0]", "[-1] [9]", "[0] [9]"}},
		{"Put of what is there", two, put(0, 7), nil, done, []string{fresh, "[-1 0] [7 8]", "[-1 0] [7 8]", fresh}},
		{"Put of an elder lap", round, put(0, 5), nil, done, []string{went, "[-1 0] [9 8]", "[-1 0] [5 8]", "[0 0] [5 8]"}},
		{"Get", two, get(1), nil, number(8), still(fresh, 3)},
		{"Get ahead of its lap", two, get(2), nil, none, still(fresh, 1)},
		{"Get behind its lap", round, get(0), nil, lost, still(went, 1)},
		{"Get of what is being laid", began, get(2), nil, none, still(being, 1)},
		{"Get of what is being lost", began, get(0), nil, lost, still(being, 1)},
		{"There", two, there(1), nil, lies, still(fresh, 1)},
		{"There ahead of its lap", two, there(3), nil, no, still(fresh, 1)},
		{"There of what is being laid", began, there(2), nil, no, still(being, 1)},
		{"Highest", round, highest(1, 9), nil, number(2), still(went, 2)},
		{"Highest of one", round, highest(1, 1), nil, number(1), still(went, 1)},
		{"Highest that ends early", two, highest(1, 2), nil, number(1), still(fresh, 2)},
		{"Highest of none", two, highest(2, 1), nil, number(1), still(fresh, 0)},
		{"Gather", round, gather(1, 9), nil, items(8, 9), still(went, 6)},
		{"Gather of one", round, gather(1, 1), nil, items(8), still(went, 3)},
		{"Gather that ends early", two, gather(1, 2), nil, items(8), still(fresh, 4)},
		{"Gather of none", two, gather(1, 0), nil, items(), still(fresh, 0)},
		{"Gather ahead of the lap", two, gather(2, 2), nil, none, still(fresh, 1)},
	} {
		x.check(t)
		x.checkEnds(t)
	}
}

// TestBetweenPut: what another one does right ahead of a step of Put is laid over, or lays over it.
func TestBetweenPut(t *testing.T) {
	other := put(4, 5)
	for _, x := range []watched{
		{"Put, ahead of S1", two, put(2, 9), map[int]call{1: other}, done, []string{fresh, "[1 0] [5 8]", "[1 0] [9 8]", "[2 0] [9 8]"}},
		{"Put, ahead of S2", two, put(2, 9), map[int]call{2: other}, done, []string{fresh, "[1 0] [7 8]", "[4 0] [9 8]", "[2 0] [9 8]"}},
		{"Put, ahead of S3", two, put(2, 9), map[int]call{3: other}, done, []string{fresh, "[1 0] [7 8]", "[1 0] [9 8]", "[2 0] [5 8]"}},
		{"Put, half of one ahead of S3", two, put(2, 9), map[int]call{3: half(other, 1)}, done, []string{fresh, "[1 0] [7 8]", "[1 0] [9 8]", "[2 0] [9 8]"}},
		{"Put, of another slot", two, put(2, 9), map[int]call{2: put(1, 5), 3: put(3, 6)}, done, []string{fresh, "[1 0] [7 8]", "[1 0] [9 5]", "[2 2] [9 6]"}},
	} {
		x.check(t)
	}
}

// TestBetweenGet: what another one does right ahead of a step of Get is what that step finds.
func TestBetweenGet(t *testing.T) {
	next, again := put(2, 9), put(0, 6)
	const went, first, second = "[2 0] [9 8]", "[1 0] [7 8]", "[1 0] [9 8]"
	for _, x := range []watched{
		{"Get, put ahead of S1", two, get(2), map[int]call{1: next}, number(9), []string{fresh, went, went, went}},
		{"Get, lost ahead of S1", two, get(0), map[int]call{1: next}, lost, []string{fresh, went}},
		{"Get, half put ahead of S1", two, get(2), map[int]call{1: half(next, 2)}, none, []string{fresh, second}},
		{"Get, half lost ahead of S1", two, get(0), map[int]call{1: half(next, 1)}, lost, []string{fresh, first}},
		{"Get, lost ahead of S2", two, get(0), map[int]call{2: next}, lost, []string{fresh, fresh, went, went}},
		{"Get, half lost ahead of S2", two, get(0), map[int]call{2: half(next, 1)}, lost, []string{fresh, fresh, first, first}},
		{"Get, more of it lost ahead of S2", two, get(0), map[int]call{2: half(next, 2)}, lost, []string{fresh, fresh, second, second}},
		{"Get, begun and nothing done ahead of S2", two, get(0), map[int]call{2: half(next, 0)}, number(7), []string{fresh, fresh, fresh, fresh}},
		{"Get, lost ahead of S3", two, get(0), map[int]call{3: next}, lost, []string{fresh, fresh, fresh, went}},
		{"Get, half lost ahead of S3", two, get(0), map[int]call{3: half(next, 1)}, lost, []string{fresh, fresh, fresh, first}},
		{"Get, several laps ahead of S3", two, get(0), map[int]call{3: all(next, put(4, 5))}, lost, []string{fresh, fresh, fresh, "[4 0] [5 8]"}},
		// These no layer above does: the steps alone tell what comes of it.
		{"Get, put anew ahead of S2", two, get(0), map[int]call{2: again}, number(6), []string{fresh, fresh, "[0 0] [6 8]", "[0 0] [6 8]"}},
		{"Get, put anew ahead of S3", two, get(0), map[int]call{3: again}, number(7), []string{fresh, fresh, fresh, "[0 0] [6 8]"}},
		{"Get, being put anew ahead of S3", two, get(0), map[int]call{3: half(again, 1)}, lost, []string{fresh, fresh, fresh, "[-1 0] [7 8]"}},
		{"There, put ahead of S1", two, there(2), map[int]call{1: next}, lies, []string{fresh, went}},
		{"There, lost ahead of S1", two, there(0), map[int]call{1: next}, no, []string{fresh, went}},
		{"There, half lost ahead of S1", two, there(0), map[int]call{1: half(next, 1)}, no, []string{fresh, first}},
	} {
		x.check(t)
	}
}

// TestBetweenMany: the same of the calls that look at several slots.
func TestBetweenMany(t *testing.T) {
	next := put(2, 9)
	const went, second = "[2 0] [9 8]", "[1 0] [9 8]"
	for _, x := range []watched{
		{"Highest, put ahead of the step", two, highest(1, 9), map[int]call{2: next}, number(2), []string{fresh, fresh, went}},
		{"Highest, half put ahead of the step", two, highest(1, 9), map[int]call{2: half(next, 2)}, number(1), []string{fresh, fresh, second}},
		{"Highest, lost behind the step", two, highest(0, 9), map[int]call{2: next}, number(1), []string{fresh, fresh, went}},
		{"Highest, lost ahead of the step", two, highest(0, 9), map[int]call{1: next}, number(-1), []string{fresh, went}},
		{"Highest, the other one lost", two, highest(0, 9), map[int]call{2: put(3, 5)}, number(0), []string{fresh, fresh, "[0 2] [7 5]"}},
		{"Gather, put ahead of its Get", two, gather(1, 9), map[int]call{3: next}, items(8, 9), []string{fresh, fresh, fresh, went, went, went, went}},
		{"Gather, half put ahead of its Get", two, gather(1, 9), map[int]call{4: half(next, 2)}, items(8), []string{fresh, fresh, fresh, fresh, second}},
		{"Gather, lost behind its Get", two, gather(0, 9), map[int]call{4: next}, items(7, 8), []string{fresh, fresh, fresh, fresh, went, went, went}},
		{"Gather, the first lost in its Get", two, gather(0, 9), map[int]call{2: next}, lost, []string{fresh, fresh, went, went}},
		{"Gather, the first lost ahead of its Get", two, gather(0, 9), map[int]call{1: next}, lost, []string{fresh, went}},
		{"Gather, the second lost in its Get", two, gather(0, 9), map[int]call{6: put(3, 5)}, items(7), []string{fresh, fresh, fresh, fresh, fresh, fresh, "[0 2] [7 5]"}},
		{"Gather, the second lost ahead of its Get", two, gather(0, 9), map[int]call{4: put(3, 5)}, items(7), []string{fresh, fresh, fresh, fresh, "[0 2] [7 5]"}},
	} {
		x.check(t)
	}
}

// TestEnded: what a Put that was ended has left is neither the one nor the other, till another one is laid there.
func TestEnded(t *testing.T) {
	for steps, left := range []string{fresh, "[1 0] [7 8]", "[1 0] [9 8]"} {
		r := two()
		half(put(2, 9), steps)(r, nil)
		if steps == 0 {
			check(t, r, "Get of the first", get(0), number(7), 3, left)
			check(t, r, "Gather", gather(0, 9), items(7, 8), 6, left)
			check(t, r, "Highest", highest(0, 9), number(1), 2, left)
		} else {
			check(t, r, "Get of the first", get(0), lost, 1, left)
			check(t, r, "Gather", gather(0, 9), lost, 1, left)
			check(t, r, "Highest", highest(0, 9), number(-1), 1, left)
		}
		check(t, r, "Get of the third", get(2), none, 1, left)
		check(t, r, "There of the third", there(2), no, 1, left)
		check(t, r, "Get of the second", get(1), number(8), 3, left)
		check(t, r, "Put anew", put(2, 6), done, 3, "[2 0] [6 8]")
		check(t, r, "Gather then", gather(1, 9), items(8, 6), 6, "[2 0] [6 8]")
	}
}
