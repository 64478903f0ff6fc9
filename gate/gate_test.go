package gate_test

import (
	"fmt"
	"math"
	"slices"
	"testing"

	"carillon/api"
	"carillon/gate"
	"carillon/turn"
)

var (
	badPlaces = []int{math.MinInt, math.MinInt + 1, -1 << 32, -65, -64, -2, -1, 64, 65, 127, 128, 1 << 16, 1 << 32, 1<<32 + 1, math.MaxInt - 1, math.MaxInt}
	extremes  = []int64{math.MinInt64, math.MinInt64 + 1, -api.MostSequence, -1 << 32, -2, -1, 0, 1, 2, 63, 64, 1 << 32, api.MostSequence - 1, api.MostSequence, math.MaxInt64 - 1, math.MaxInt64}
)

const blank = "[] map[]"

// TestNew is P14.1: what a new gate is like; two of them share nothing.
func TestNew(t *testing.T) {
	one, other := gate.New(), gate.New()
	for _, g := range []*gate.Gate{one, other} {
		if len(g.Members()) != 0 || !slices.Equal(g.Numbers(), slices.Repeat([]int64{-1}, places)) || look(g) != blank {
			t.Error(g.Members(), g.Numbers())
		}
	}
	for place := range places {
		all(join(place, 7), set(place, 8))(one, nil)
	}
	if len(one.Members()) != places || !slices.Equal(one.Numbers(), slices.Repeat([]int64{8}, places)) || look(other) != blank {
		t.Error(look(one), look(other))
	}
}

// TestExamples are the chapter's.
func TestExamples(t *testing.T) {
	g := gate.New()
	check(t, g, "Least without members", least(9), lowest(9, -1), 1, blank)
	check(t, g, "May without members", may(100, 8), allowed, 1, blank)
	check(t, g, "Join(3, 10)", join(3, 10), done, 3, "[3] map[3:10]")
	check(t, g, "Join(1, 7)", join(1, 7), done, 3, "[3 1] map[1:7 3:10]")
	check(t, g, "Least(0)", least(0), lowest(7, 1), 3, look(g))
	check(t, g, "May(15, 8)", may(15, 8), allowed, 3, look(g))
	check(t, g, "May(16, 8)", may(16, 8), held(1), 3, look(g))
	check(t, g, "Set(1, 12)", set(1, 12), done, 1, "[3 1] map[1:12 3:10]")
	check(t, g, "Least(0)", least(0), lowest(10, 3), 3, look(g))
	check(t, g, "Join(3, 0)", join(3, 0), there, 1, look(g))
	check(t, g, "Leave(3)", leave(3), done, 2, "[1] map[1:12 3:10]")
	check(t, g, "Leave(3)", leave(3), away, 1, look(g))
	checkStill(t, g, "Join(64, 0)", join(64, 0), foreign)
}

// TestRange: a place that isn't good, whatever the gate is like.
func TestRange(t *testing.T) {
	for name, g := range map[string]*gate.Gate{"nil": nil, "zero": {}, "new": gate.New(), "some": at(5, 3, 4), "full": full()} {
		for _, place := range badPlaces {
			for what, do := range of(place) {
				checkStill(t, g, fmt.Sprint(what, " of ", place, " of ", name), do, foreign)
			}
		}
	}
}

// TestJoin is P14.2 of each place, at any number: the new member is the last one.
func TestJoin(t *testing.T) {
	for place := range places {
		for _, n := range extremes {
			g := gate.New()
			check(t, g, "Join", join(place, n), done, 3, state([]int{place}, without(map[int]int64{place: n})))
			check(t, g, "Join again", join(place, 77), there, 1, look(g))
			other := (place + 1) % places
			check(t, g, "Join of another", join(other, 3), done, 3, state([]int{place, other}, without(map[int]int64{place: n, other: 3})))
			check(t, g, "Join again", join(place, n-1), there, 1, look(g))
			check(t, g, "Join again", join(other, 3), there, 1, look(g))
		}
	}
	g, members, numbers := gate.New(), []int(nil), map[int]int64{}
	for i := range places {
		place := i * 37 % places
		members = append(members, place)
		numbers[place] = int64(1000 - i)
		check(t, g, "Join", join(place, numbers[place]), done, 3, state(members, numbers))
	}
	for place := range places {
		check(t, g, "Join of one more", join(place, -5), there, 1, state(members, numbers))
	}
}

// without leaves out the numbers that a look doesn't tell.
func without(numbers map[int]int64) map[int]int64 {
	for place, n := range numbers {
		if n == -1 {
			delete(numbers, place)
		}
	}
	return numbers
}

// TestLeave is P14.3 of each member of gates of some members: the others stay in their order, and all numbers as they are.
func TestLeave(t *testing.T) {
	for n := range places {
		check(t, gate.New(), "Leave of nobody", leave(n), away, 1, blank)
		g, members, numbers := gate.New(), []int(nil), map[int]int64{}
		for i := range n + 1 {
			place := (5*n + i*11) % places
			members = append(members, place)
			numbers[place] = int64(i)
			g.Join(nil, place, int64(i))
		}
		for place := range places {
			if !slices.Contains(members, place) {
				check(t, g, "Leave of another", leave(place), away, 1, state(members, numbers))
			}
		}
		for i := 0; len(members) > 0; i++ {
			at := i * 7 % len(members)
			place := members[at]
			members = slices.Concat(members[:at], members[at+1:])
			check(t, g, "Leave", leave(place), done, 2, state(members, numbers))
			check(t, g, "Leave again", leave(place), away, 1, state(members, numbers))
		}
	}
}

// TestAgain: who has left joins anew, as the last one.
func TestAgain(t *testing.T) {
	g := at(5, 6, 7)
	check(t, g, "Leave", leave(1), done, 2, "[0 2] map[0:5 1:6 2:7]")
	check(t, g, "Join", join(1, 4), done, 3, "[0 2 1] map[0:5 1:4 2:7]")
	check(t, g, "Join again", join(1, 8), there, 1, "[0 2 1] map[0:5 1:4 2:7]")
	check(t, g, "Leave of the first", leave(0), done, 2, "[2 1] map[0:5 1:4 2:7]")
	check(t, g, "Leave of the last", leave(1), done, 2, "[2] map[0:5 1:4 2:7]")
	check(t, g, "Leave of all", leave(2), done, 2, "[] map[0:5 1:4 2:7]")
	check(t, g, "Least", least(9), lowest(9, -1), 1, "[] map[0:5 1:4 2:7]")
	check(t, g, "Join of all", join(0, -1), done, 3, "[0] map[1:4 2:7]")
}

// TestSetGet is P14.4: any number, of any place, be it a member's or not.
func TestSetGet(t *testing.T) {
	for place := range places {
		for name, g := range map[string]*gate.Gate{"none": gate.New(), "the one": after(join(place, 3)), "another": after(join((place+1)%places, 3)), "all": full()} {
			members, numbers := g.Members(), g.Numbers()
			for _, n := range extremes {
				check(t, g, "Get, where members are "+name, get(place), number(numbers[place]), 1, look(g))
				if err := g.Set(nil, place, n); err != api.OK {
					t.Error(name, place, n, err)
				}
				numbers[place] = n
				if !slices.Equal(g.Members(), members) || !slices.Equal(g.Numbers(), numbers) {
					t.Error(name, place, n, look(g))
				}
				counter := turn.NewCounter(9)
				if err := g.Set(counter, place, n); err != api.OK || counter.Steps() != 1 || !slices.Equal(g.Numbers(), numbers) {
					t.Error(name, place, n, err, counter.Steps(), look(g))
				}
			}
		}
	}
}

// TestList is P14.4, and what Members tells without a step.
func TestList(t *testing.T) {
	g := gate.New()
	check(t, g, "List of none", list, listed(), 1, blank)
	var members []int
	for i := range places {
		place := i * 13 % places
		g.Join(nil, place, 0)
		members = append(members, place)
		check(t, g, "List", list, listed(members...), 1, look(g))
		if !slices.Equal(g.Members(), members) {
			t.Error(g.Members(), members)
		}
	}
}

// numbered makes a gate whose members, in this order, have these numbers, and whose other places have one that is less than all.
func numbered(members []int, numbers []int64) *gate.Gate {
	g := gate.New()
	for place := range places {
		g.Set(nil, place, math.MinInt64)
	}
	for i, place := range members {
		g.Join(nil, place, numbers[i])
	}
	return g
}

// TestLeast is P14.5: the first member that has the least number, whatever none is; the numbers of others don't count.
func TestLeast(t *testing.T) {
	for _, x := range []struct {
		members []int
		numbers []int64
		want    told
	}{
		{[]int{0}, []int64{5}, lowest(5, 0)},
		{[]int{63}, []int64{math.MaxInt64}, lowest(math.MaxInt64, 63)},
		{[]int{63}, []int64{math.MinInt64}, lowest(math.MinInt64, 63)},
		{[]int{7}, []int64{-1}, lowest(-1, 7)},
		{[]int{3, 1}, []int64{10, 7}, lowest(7, 1)},
		{[]int{3, 1}, []int64{7, 10}, lowest(7, 3)},
		{[]int{3, 1}, []int64{7, 7}, lowest(7, 3)},
		{[]int{1, 3}, []int64{7, 7}, lowest(7, 1)},
		{[]int{9, 5, 2, 8}, []int64{4, 3, 3, 4}, lowest(3, 5)},
		{[]int{9, 2, 5, 8}, []int64{4, 3, 3, 3}, lowest(3, 2)},
		{[]int{8, 9, 2}, []int64{math.MaxInt64, math.MaxInt64, math.MaxInt64}, lowest(math.MaxInt64, 8)},
		{[]int{8, 9, 2}, []int64{math.MaxInt64, 0, math.MinInt64}, lowest(math.MinInt64, 2)},
		{[]int{8, 9, 2}, []int64{1 << 32, 1<<32 + 1, 1<<31 - 1}, lowest(1<<31-1, 2)},
		{[]int{8, 9, 2}, []int64{-1 << 32, -1<<32 + 1, -1}, lowest(-1<<32, 8)},
	} {
		g := numbered(x.members, x.numbers)
		for _, none := range extremes {
			check(t, g, "Least", least(none), x.want, 1+len(x.members), look(g))
		}
	}
	for _, none := range extremes {
		for _, g := range []*gate.Gate{gate.New(), numbered(nil, nil), after(join(4, 2), leave(4))} {
			check(t, g, "Least without members", least(none), lowest(none, -1), 1, look(g))
		}
	}
	g := full()
	for place := range places {
		check(t, g, "Least of all", least(-9), lowest(int64(place), place), 1+places, look(g))
		g.Set(nil, place, places)
	}
	check(t, g, "Least of all that are even", least(-9), lowest(places, places-1), 1+places, look(g))
}

// TestMay is P14.6, at the edges of what may be written over.
func TestMay(t *testing.T) {
	for _, x := range []struct {
		least, q int64
		size     int
		yes      bool
	}{
		{7, 15, 8, true}, {7, 16, 8, false}, {7, 14, 8, true}, {7, 7, 8, true}, {7, math.MinInt64, 8, true}, {7, math.MaxInt64, 8, false},
		{-1, 0, 1, true}, {-1, 1, 1, false}, {-1, 3, 4, true}, {-1, 4, 4, false}, {-1, -1, 1, true}, {-9, -8, 1, true}, {-9, -7, 1, false},
		{7, 8, 1, true}, {7, 9, 1, false}, {7, 8, 0, true}, {7, 9, 0, false}, {7, 8, -1, true}, {7, 9, -1, false}, {7, 9, -8, false}, {7, 8, math.MinInt, true}, {7, 9, math.MinInt, false},
		{0, 1 << 32, 1 << 32, true}, {0, 1<<32 + 1, 1 << 32, false}, {0, 3, 1<<32 + 3, true}, {0, 1<<32 + 3, 1<<32 + 3, true}, {0, 1<<32 + 4, 1<<32 + 3, false},
		{0, math.MaxInt64, math.MaxInt, true}, {-1, math.MaxInt64, math.MaxInt, false}, {-1, math.MaxInt64 - 1, math.MaxInt, true}, {math.MaxInt64 - 1, math.MaxInt64, 1, true}, {math.MaxInt64 - 2, math.MaxInt64, 1, false},
		{math.MaxInt64, math.MaxInt64, 1, true}, {math.MaxInt64, math.MinInt64, 1, true}, {math.MaxInt64, math.MinInt64, math.MaxInt, true},
		{math.MinInt64, math.MinInt64, 1, true}, {math.MinInt64, math.MinInt64, math.MaxInt, true}, {math.MinInt64, math.MinInt64 + 1, 1, true}, {math.MinInt64, math.MinInt64 + 2, 1, false},
		{math.MinInt64, -1, math.MaxInt, true}, {math.MinInt64, 0, math.MaxInt, false}, {math.MinInt64 + 1, 0, math.MaxInt, true}, {math.MinInt64, -2, math.MaxInt, true}, {math.MinInt64, math.MaxInt64, math.MaxInt, false},
		{math.MinInt64, math.MinInt64 + 8, 8, true}, {math.MinInt64, math.MinInt64 + 9, 8, false}, {math.MinInt64, math.MinInt64 + 7, 8, true},
		{api.MostSequence - 1, api.MostSequence, 1, true}, {api.MostSequence - api.MostSize, api.MostSequence, api.MostSize, true}, {api.MostSequence - api.MostSize - 1, api.MostSequence, api.MostSize, false},
	} {
		want := held(2)
		if x.yes {
			want = allowed
		}
		g := numbered([]int{2}, []int64{x.least})
		check(t, g, fmt.Sprint("May ", x), may(x.q, x.size), want, 2, look(g))
		g = numbered([]int{1, 2, 9}, []int64{math.MaxInt64, x.least, x.least})
		check(t, g, fmt.Sprint("May ", x, " of three"), may(x.q, x.size), want, 4, look(g))
		for _, g := range []*gate.Gate{gate.New(), {}, numbered(nil, nil), after(join(2, x.least), leave(2))} {
			check(t, g, fmt.Sprint("May ", x, " without members"), may(x.q, x.size), allowed, 1, look(g))
		}
	}
}

// TestMayHeld: who holds back is who is furthest behind, and of those the first one in the list.
func TestMayHeld(t *testing.T) {
	g := numbered([]int{9, 5, 2, 8}, []int64{4, 3, 3, 4})
	check(t, g, "May", may(7, 4), allowed, 5, look(g))
	check(t, g, "May of one more", may(8, 4), held(5), 5, look(g))
	g.Set(nil, 5, 8)
	check(t, g, "May when one has gone on", may(8, 4), held(2), 5, look(g))
	g.Leave(nil, 2)
	check(t, g, "May when the other one has left", may(8, 4), allowed, 4, look(g))
	check(t, g, "May of one more", may(9, 4), held(9), 4, look(g))
}

// TestNil is P14.9.
func TestNil(t *testing.T) {
	var g *gate.Gate
	for range 2 {
		if len(g.Members()) != 0 || len(g.Numbers()) != 0 || look(g) != blank {
			t.Error(g.Members(), g.Numbers())
		}
		for place := range places {
			for what, do := range of(place) {
				checkStill(t, g, what, do, away)
			}
		}
		checkStill(t, g, "List", list, listed())
		for _, n := range extremes {
			checkStill(t, g, "Least", least(n), lowest(n, -1))
			for _, size := range []int{math.MinInt, -1, 0, 1, 8, math.MaxInt} {
				checkStill(t, g, "May", may(n, size), allowed)
			}
		}
	}
}

// TestZero is P14.9: it is a new one, but for the numbers.
func TestZero(t *testing.T) {
	g := &gate.Gate{}
	if len(g.Members()) != 0 || !slices.Equal(g.Numbers(), make([]int64, places)) {
		t.Error(g.Members(), g.Numbers())
	}
	check(t, g, "Get", get(63), number(0), 1, look(g))
	check(t, g, "Least", least(5), lowest(5, -1), 1, look(g))
	check(t, g, "Leave", leave(0), away, 1, look(g))
	check(t, g, "List", list, listed(), 1, look(g))
	for name, do := range map[string]call{"Join": join(4, 9), "Leave": leave(1), "Set": set(4, 8), "Get": get(1), "List": list, "Least": least(3), "May": may(9, 2)} {
		for ahead, before := range map[string]call{"nothing": all(), "Joins": all(join(1, 5), join(4, 3)), "a Leave": all(join(1, 5), leave(1)), "a Set": set(4, 6)} {
			one, other := &gate.Gate{}, gate.New()
			for place := range places {
				one.Set(nil, place, -1)
			}
			before(one, nil)
			before(other, nil)
			a, b := turn.NewCounter(99), turn.NewCounter(99)
			if do(one, a) != do(other, b) || a.Steps() != b.Steps() || a.Steps() == 0 || look(one) != look(other) {
				t.Error(ahead, "and then", name, look(one), look(other), a.Steps(), b.Steps())
			}
		}
	}
}

// TestMemory: what was told isn't told otherwise by what comes behind, and what becomes of it, its spare room too, changes nothing.
func TestMemory(t *testing.T) {
	g := at(5, 6, 7)
	spoil := func(list []int) {
		for i := range list[:cap(list)] {
			list[:cap(list)][i] = 63
		}
	}
	for range 4 {
		spoil(g.Members())
		spoil(g.List(nil))
		clear(g.Numbers())
		if look(g) != "[0 1 2] map[0:5 1:6 2:7]" {
			t.Fatal(look(g))
		}
	}
	first, numbers := g.List(nil), g.Numbers()
	all(join(3, 8), leave(0), set(1, 9))(g, nil)
	second := g.Members()
	all(join(0, 1), leave(2), leave(1))(g, nil)
	spoil(g.Members())
	if !slices.Equal(first, []int{0, 1, 2}) || !slices.Equal(second, []int{1, 2, 3}) || numbers[1] != 6 || numbers[3] != -1 || look(g) != "[3 0] map[0:1 1:9 2:7 3:8]" {
		t.Error(first, second, numbers, look(g))
	}
}
