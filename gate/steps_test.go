package gate_test

import (
	"slices"
	"testing"

	"carillon/gate"
	"carillon/turn"
)

const (
	three = "[0 1 2] map[0:5 1:6 2:5]"
	one   = "[3] map[3:9]"
)

func fresh() *gate.Gate { return gate.New() }
func some() *gate.Gate  { return at(5, 6, 5) }

// TestOrder: what is to be seen ahead of each step: Step is called right ahead of it.
func TestOrder(t *testing.T) {
	for _, x := range []watched{
		{"Join of the first", fresh, join(3, 9), nil, done, append(still(blank, 1), "[] map[3:9]", one)},
		{"Join of one more", some, join(3, 9), nil, done, append(still(three, 1), "[0 1 2] map[0:5 1:6 2:5 3:9]", "[0 1 2 3] map[0:5 1:6 2:5 3:9]")},
		{"Join of a member", some, join(1, 9), nil, there, still(three, 1)},
		{"Leave", some, leave(1), nil, done, append(still(three, 1), "[0 2] map[0:5 1:6 2:5]")},
		{"Leave of none", some, leave(3), nil, away, still(three, 1)},
		{"Leave of the first that might be", fresh, leave(0), nil, away, still(blank, 1)},
		{"Set", some, set(1, 9), nil, done, []string{three, "[0 1 2] map[0:5 1:9 2:5]"}},
		{"Set of none", some, set(3, 9), nil, done, []string{three, "[0 1 2] map[0:5 1:6 2:5 3:9]"}},
		{"Get", some, get(1), nil, number(6), still(three, 1)},
		{"Get of none", some, get(3), nil, number(-1), still(three, 1)},
		{"List", some, list, nil, listed(0, 1, 2), still(three, 1)},
		{"Least", some, least(0), nil, lowest(5, 0), still(three, 4)},
		{"Least of none", fresh, least(7), nil, lowest(7, -1), still(blank, 1)},
		{"May", some, may(6, 1), nil, allowed, still(three, 4)},
		{"May that is held", some, may(7, 1), nil, held(0), still(three, 4)},
		{"May of none", fresh, may(7, 1), nil, allowed, still(blank, 1)},
	} {
		x.check(t)
		x.checkEnds(t)
	}
}

// TestBetweenJoin: where another list has been laid, be it like the one that was loaded, all begins anew.
func TestBetweenJoin(t *testing.T) {
	for _, x := range []watched{
		{"another one joins ahead of S1", fresh, join(1, 6), map[int]call{1: join(0, 5)}, done,
			[]string{blank, "[0] map[0:5]", "[0] map[0:5 1:6]", "[0 1] map[0:5 1:6]"}},
		{"another one joins ahead of S2", fresh, join(1, 6), map[int]call{2: join(0, 5)}, done,
			slices.Concat(still(blank, 1), still("[0] map[0:5 1:6]", 3), []string{"[0 1] map[0:5 1:6]"})},
		{"another one joins ahead of S3", fresh, join(1, 6), map[int]call{3: join(0, 5)}, done,
			slices.Concat(still(blank, 1), []string{"[] map[1:6]"}, still("[0] map[0:5 1:6]", 2), []string{"[0 1] map[0:5 1:6]"})},
		{"others join ahead of S3 twice", fresh, join(1, 6), map[int]call{3: join(0, 5), 6: join(2, 7)}, done,
			slices.Concat(still(blank, 1), []string{"[] map[1:6]"}, still("[0] map[0:5 1:6]", 2), still("[0 2] map[0:5 1:6 2:7]", 2), []string{"[0 2 1] map[0:5 1:6 2:7]"})},
		{"another one leaves ahead of S3", some, join(3, 9), map[int]call{3: leave(1)}, done,
			slices.Concat(still(three, 1), []string{"[0 1 2] map[0:5 1:6 2:5 3:9]"}, still("[0 2] map[0:5 1:6 2:5 3:9]", 2), []string{"[0 2 3] map[0:5 1:6 2:5 3:9]"})},
		{"the same list is laid ahead of S3", some, join(3, 9), map[int]call{3: all(join(4, 8), leave(4))}, done,
			slices.Concat(still(three, 1), []string{"[0 1 2] map[0:5 1:6 2:5 3:9]"}, still("[0 1 2] map[0:5 1:6 2:5 3:9 4:8]", 2), []string{"[0 1 2 3] map[0:5 1:6 2:5 3:9 4:8]"})},
		{"the list of none is laid ahead of S3", fresh, join(3, 9), map[int]call{3: all(join(4, 8), leave(4))}, done,
			slices.Concat(still(blank, 1), []string{"[] map[3:9]"}, still("[] map[3:9 4:8]", 2), []string{"[3] map[3:9 4:8]"})},
		{"the place joins ahead of S1", fresh, join(3, 9), map[int]call{1: join(3, 4)}, there, []string{blank, "[3] map[3:4]"}},
		{"the place joins ahead of S2", fresh, join(3, 9), map[int]call{2: join(3, 4)}, there, slices.Concat(still(blank, 1), still(one, 2))},
		{"the place joins ahead of S3", fresh, join(3, 9), map[int]call{3: join(3, 4)}, there, slices.Concat(still(blank, 1), []string{"[] map[3:9]"}, still("[3] map[3:4]", 1))},
		{"the place joins and goes on ahead of S2", fresh, join(3, 9), map[int]call{2: all(join(3, 4), set(3, 99))}, there, slices.Concat(still(blank, 1), still(one, 2))},
		{"the place joins and leaves ahead of S3", fresh, join(3, 9), map[int]call{3: all(join(3, 4), leave(3))}, done,
			slices.Concat(still(blank, 1), []string{"[] map[3:9]"}, still("[] map[3:4]", 1), []string{"[] map[3:9]", one})},
		{"the place leaves ahead of S1", func() *gate.Gate { return after(join(3, 4)) }, join(3, 9), map[int]call{1: leave(3)}, done, []string{"[3] map[3:4]", "[] map[3:4]", "[] map[3:9]", one}},
		{"its number is set ahead of S3", fresh, join(3, 9), map[int]call{3: set(3, 4)}, done, slices.Concat(still(blank, 1), []string{"[] map[3:9]", "[3] map[3:4]"})},
		{"numbers are set ahead of S3", some, join(3, 9), map[int]call{3: all(set(0, 8), set(1, 8))}, done,
			slices.Concat(still(three, 1), []string{"[0 1 2] map[0:5 1:6 2:5 3:9]", "[0 1 2 3] map[0:8 1:8 2:5 3:9]"})},
		{"another one stands ahead of S3 too", fresh, join(1, 6), map[int]call{3: half(join(0, 5), 2)}, done, slices.Concat(still(blank, 1), []string{"[] map[1:6]", "[1] map[0:5 1:6]"})},
	} {
		x.name = "Join, " + x.name
		x.check(t)
	}
}

// TestBetweenLeave: the same of a Leave.
func TestBetweenLeave(t *testing.T) {
	const joined, left = "[0 1 2 3] map[0:5 1:6 2:5 3:9]", "[0 2] map[0:5 1:6 2:5]"
	for _, x := range []watched{
		{"another one joins ahead of S1", some, leave(1), map[int]call{1: join(3, 9)}, done, []string{three, joined, "[0 2 3] map[0:5 1:6 2:5 3:9]"}},
		{"another one joins ahead of S2", some, leave(1), map[int]call{2: join(3, 9)}, done, slices.Concat(still(three, 1), still(joined, 1), []string{"[0 2 3] map[0:5 1:6 2:5 3:9]"})},
		{"others join and leave ahead of S2 twice", some, leave(1), map[int]call{2: join(3, 9), 4: leave(0)}, done,
			slices.Concat(still(three, 1), still(joined, 1), still("[1 2 3] map[0:5 1:6 2:5 3:9]", 1), []string{"[2 3] map[0:5 1:6 2:5 3:9]"})},
		{"the same list is laid ahead of S2", some, leave(1), map[int]call{2: all(join(3, 9), leave(3))}, done,
			slices.Concat(still(three, 1), still("[0 1 2] map[0:5 1:6 2:5 3:9]", 1), []string{"[0 2] map[0:5 1:6 2:5 3:9]"})},
		{"the place leaves ahead of S1", some, leave(1), map[int]call{1: leave(1)}, away, []string{three, left}},
		{"the place leaves ahead of S2", some, leave(1), map[int]call{2: leave(1)}, away, slices.Concat(still(three, 1), still(left, 1))},
		{"the place leaves and joins ahead of S2", some, leave(1), map[int]call{2: all(leave(1), join(1, 8))}, done,
			slices.Concat(still(three, 1), still("[0 2 1] map[0:5 1:8 2:5]", 1), []string{"[0 2] map[0:5 1:8 2:5]"})},
		{"the place joins ahead of S1", fresh, leave(3), map[int]call{1: join(3, 9)}, done, []string{blank, one, "[] map[3:9]"}},
		{"its number is set ahead of S2", some, leave(1), map[int]call{2: set(1, 8)}, done, append(still(three, 1), "[0 2] map[0:5 1:8 2:5]")},
		{"another one stands ahead of its S3", some, leave(1), map[int]call{2: half(join(3, 9), 2)}, done, append(still(three, 1), "[0 2] map[0:5 1:6 2:5 3:9]")},
	} {
		x.name = "Leave, " + x.name
		x.check(t)
	}
}

// TestBetweenLeast: the members are those of S1, and each number is as it is at its own step.
func TestBetweenLeast(t *testing.T) {
	const more = "[0 1 2 3] map[0:5 1:6 2:5 3:1]"
	for _, x := range []watched{
		{"one joins ahead of S1", some, least(0), map[int]call{1: join(3, 1)}, lowest(1, 3), append([]string{three}, still(more, 4)...)},
		{"one joins behind S1", some, least(0), map[int]call{2: join(3, 1)}, lowest(5, 0), slices.Concat(still(three, 1), still(more, 2))},
		{"one joins ahead of S1, where there was none", fresh, least(0), map[int]call{1: join(3, 9)}, lowest(9, 3), append([]string{blank}, still(one, 1)...)},
		{"one leaves ahead of S1", some, least(0), map[int]call{1: leave(0)}, lowest(5, 2), append([]string{three}, still("[1 2] map[0:5 1:6 2:5]", 2)...)},
		{"one leaves behind S1", some, least(0), map[int]call{2: leave(0)}, lowest(5, 0), slices.Concat(still(three, 1), still("[1 2] map[0:5 1:6 2:5]", 2))},
		{"all leave ahead of S1", some, least(4), map[int]call{1: all(leave(0), leave(1), leave(2))}, lowest(4, -1), []string{three, "[] map[0:5 1:6 2:5]"}},
		{"all leave behind S1", some, least(4), map[int]call{2: all(leave(0), leave(1), leave(2))}, lowest(5, 0), slices.Concat(still(three, 1), still("[] map[0:5 1:6 2:5]", 2))},
		{"one goes on ahead of its step", some, least(0), map[int]call{2: set(0, 9)}, lowest(5, 2), slices.Concat(still(three, 1), still("[0 1 2] map[0:9 1:6 2:5]", 2))},
		{"one goes on behind its step", some, least(0), map[int]call{3: set(0, 9)}, lowest(5, 0), slices.Concat(still(three, 2), still("[0 1 2] map[0:9 1:6 2:5]", 1))},
		{"the last one goes back ahead of its step", some, least(0), map[int]call{4: set(2, 1)}, lowest(1, 2), slices.Concat(still(three, 3), []string{"[0 1 2] map[0:5 1:6 2:1]"})},
		{"one leaves and joins anew behind S1", some, least(0), map[int]call{2: all(leave(0), join(0, 8))}, lowest(5, 2), slices.Concat(still(three, 1), still("[1 2 0] map[0:8 1:6 2:5]", 2))},
		{"another one's number behind S1", some, least(0), map[int]call{2: set(3, 1)}, lowest(5, 0), slices.Concat(still(three, 1), still("[0 1 2] map[0:5 1:6 2:5 3:1]", 2))},
	} {
		x.name = "Least, " + x.name
		x.check(t)
		// A May of what is allowed up to the least, and then of what isn't.
		n := x.want.n
		if x.want.place < 0 {
			continue
		}
		for q, want := range map[int64]told{n + 4: allowed, n + 5: held(x.want.place)} {
			x.call, x.want = may(q, 4), want
			x.check(t)
		}
	}
}

// TestBetweenNumbers: what is set right ahead of the step is what is got, and what is laid last stays.
func TestBetweenNumbers(t *testing.T) {
	const eight, nine = "[0 1 2] map[0:5 1:8 2:5]", "[0 1 2] map[0:5 1:9 2:5]"
	for _, x := range []watched{
		{"Get, another one sets ahead of S1", some, get(1), map[int]call{1: set(1, 9)}, number(9), []string{three, nine}},
		{"Get, another one joins and stands ahead of its S3", fresh, get(3), map[int]call{1: half(join(3, 9), 2)}, number(9), []string{blank, "[] map[3:9]"}},
		{"Get, another one leaves ahead of S1", some, get(1), map[int]call{1: leave(1)}, number(6), []string{three, "[0 2] map[0:5 1:6 2:5]"}},
		{"Set, another one sets ahead of S1", some, set(1, 8), map[int]call{1: set(1, 9)}, done, []string{three, eight}},
		{"Set, another one leaves ahead of S1", some, set(1, 8), map[int]call{1: leave(1)}, done, []string{three, "[0 2] map[0:5 1:8 2:5]"}},
		{"List, another one joins ahead of S1", fresh, list, map[int]call{1: join(3, 9)}, listed(3), []string{blank, one}},
		{"List, another one stands ahead of its S3", some, list, map[int]call{1: half(join(3, 9), 2)}, listed(0, 1, 2), []string{three, "[0 1 2] map[0:5 1:6 2:5 3:9]"}},
		{"List, another one leaves ahead of S1", some, list, map[int]call{1: leave(0)}, listed(1, 2), []string{three, "[1 2] map[0:5 1:6 2:5]"}},
	} {
		x.check(t)
	}
}

// TestLate is P14.7's last part: a Least that has loaded the list tells a number that is above that of who joins then.
func TestLate(t *testing.T) {
	const late = "[0 1] map[0:9 1:3]"
	alone := func() *gate.Gate { return at(9) }
	for _, x := range []watched{
		{"Least", alone, least(0), map[int]call{2: join(1, 3)}, lowest(9, 0), append(still("[0] map[0:9]", 1), late)},
		{"May", alone, may(13, 4), map[int]call{2: join(1, 3)}, allowed, append(still("[0] map[0:9]", 1), late)},
	} {
		x.check(t)
	}
	g := after(join(0, 9), join(1, 3))
	check(t, g, "Least then", least(0), lowest(3, 1), 3, late)
	check(t, g, "May then", may(13, 4), held(1), 3, late)
}

// TestEnded: a call that was ended has left a number at most, and no member; whoever comes then goes on.
func TestEnded(t *testing.T) {
	for steps := range 3 {
		g := after(join(0, 5), half(join(3, 9), steps))
		numbers := []string{"[0] map[0:5]", "[0] map[0:5]", "[0] map[0:5 3:9]"}
		check(t, g, "Leave behind a Join that was ended", leave(3), away, 1, numbers[steps])
		check(t, g, "Least behind a Join that was ended", least(0), lowest(5, 0), 2, numbers[steps])
		check(t, g, "Join behind one that was ended", join(3, 4), done, 3, "[0 3] map[0:5 3:4]")
	}
	for steps := range 2 {
		g := after(join(0, 5), half(leave(0), steps))
		check(t, g, "Join behind a Leave that was ended", join(0, 9), there, 1, "[0] map[0:5]")
		check(t, g, "Leave behind one that was ended", leave(0), done, 2, "[] map[0:5]")
	}
	g := after(half(set(0, 5), 0))
	check(t, g, "Get behind a Set that was ended", get(0), number(-1), 1, blank)
	turn.Over([]func(s turn.Stepper){func(s turn.Stepper) { g.Join(s, 3, 9) }}, nil, 2)
	check(t, g, "Join behind a run that was stuck", join(3, 8), done, 3, "[3] map[3:8]")
}
