package multi_test

import (
	"slices"
	"testing"

	"carillon/multi"
	"carillon/turn"
)

// still is what is to be seen where so many steps change nothing.
func still(what string, steps int) []string { return slices.Repeat([]string{what}, steps+1) }

const (
	blank = "-1 -1 [-2 -2] [0 0]"
	laid  = "1 -1 [0 0] [7 8]"
	found = "1 1 [0 0] [7 8]"
	more  = "2 1 [0 0] [7 8]"
	both  = "3 1 [0 0] [7 8]"
)

// These are rings of two slots: a new one, and one that is full.
func fresh() *multi.Multi  { return ring(2, 0) }
func lapped() *multi.Multi { return after(2, 0, offer(nil, 7, 8)) }

// TestOrder: what is to be seen ahead of each step: Step is called right ahead of it.
func TestOrder(t *testing.T) {
	slow := func() *multi.Multi { return after(2, 0, claim(nil, 1), offer(nil, 8)) }
	for _, x := range []watched{
		{"Claim", fresh, claim(nil, 2), nil, number(1), append(still(blank, 2), "1 -1 [-2 -2] [0 0]")},
		{"Claim that asks", lapped, claim(at(1, 2), 2), nil, number(3), slices.Concat(still(laid, 4), still(found, 2), []string{both})},
		{"Claim that asks and finds less", lapped, claim(at(2, 0), 1), nil, number(2), slices.Concat(still(laid, 4), still("1 0 [0 0] [7 8]", 1), []string{"2 0 [0 0] [7 8]"})},
		{"Claim that is refused", lapped, claim(at(2, 0), 2), nil, full, append(still(laid, 4), "1 0 [0 0] [7 8]")},
		{"Claim with nobody", lapped, claim(nil, 2), nil, number(3), slices.Concat(still(laid, 2), still(found, 2), []string{both})},
		{"Claim behind a slow writer", slow, claim(nil, 1), nil, full, slices.Concat(still("1 -1 [-2 0] [0 8]", 2), still("1 1 [-2 0] [0 8]", 2))},
		{"Write", fresh, write(1, 5), nil, done, []string{blank, "-1 -1 [-2 -1] [0 0]", "-1 -1 [-2 -1] [0 5]", "-1 -1 [-2 0] [0 5]"}},
		{"Write of a lap", lapped, write(2, 5), nil, done, []string{laid, "1 -1 [1 0] [7 8]", "1 -1 [1 0] [5 8]", "1 -1 [2 0] [5 8]"}},
		{"Offer", fresh, offer(nil, 5, 6), nil, number(1), slices.Concat(still(blank, 2), []string{"1 -1 [-2 -2] [0 0]", "1 -1 [-1 -2] [0 0]", "1 -1 [-1 -2] [5 0]", "1 -1 [0 -2] [5 0]", "1 -1 [0 -1] [5 0]", "1 -1 [0 -1] [5 6]", "1 -1 [0 0] [5 6]"})},
		{"Offer that asks", lapped, offer(at(0), 9), nil, number(2), slices.Concat(still(laid, 3), still("1 0 [0 0] [7 8]", 1), []string{"2 0 [0 0] [7 8]", "2 0 [1 0] [7 8]", "2 0 [1 0] [9 8]", "2 0 [2 0] [9 8]"})},
		{"Offer that is refused", lapped, offer(at(0), 9, 10), nil, full, append(still(laid, 3), "1 0 [0 0] [7 8]")},
		{"Cursor", lapped, cursor, nil, number(1), still(laid, 1)},
		{"Published", lapped, published(0), nil, number(1), still(laid, 3)},
		{"Published of none", lapped, published(2), nil, number(1), still(laid, 1)},
		{"Published that is stopped", slow, published(0), nil, number(-1), still("1 -1 [-2 0] [0 8]", 2)},
	} {
		x.check(t)
		x.checkEnds(t)
	}
}

// TestBetweenSwap: where another one has claimed, all begins anew, whatever came of it.
func TestBetweenSwap(t *testing.T) {
	one := claim(nil, 1)
	claimed := func(c string) string { return c + " -1 [-2 -2] [0 0]" }
	for _, x := range []watched{
		{"ahead of S1", fresh, one, map[int]call{1: one}, number(1), slices.Concat([]string{blank}, still(claimed("0"), 1), []string{claimed("1")})},
		{"ahead of S2", fresh, one, map[int]call{2: one}, number(1), slices.Concat(still(blank, 1), still(claimed("0"), 3), []string{claimed("1")})},
		{"ahead of S6", fresh, one, map[int]call{3: one}, number(1), slices.Concat(still(blank, 2), still(claimed("0"), 2), []string{claimed("1")})},
		{"ahead of S6, twice", func() *multi.Multi { return ring(4, 0) }, one, map[int]call{3: one, 6: claim(nil, 2)}, number(3), slices.Concat(
			still("-1 -1 [-2 -2 -2 -2] [0 0 0 0]", 2), still("0 -1 [-2 -2 -2 -2] [0 0 0 0]", 2), still("2 -1 [-2 -2 -2 -2] [0 0 0 0]", 2), []string{"3 -1 [-2 -2 -2 -2] [0 0 0 0]"})},
		{"and there is no room any more", fresh, claim(fixed(-1), 2), map[int]call{3: one}, full, slices.Concat(still(blank, 2), still(claimed("0"), 3))},
		{"and the rest isn't written", fresh, one, map[int]call{3: claim(nil, 2)}, full, slices.Concat(still(blank, 2), still(claimed("1"), 2), still("1 1 [-2 -2] [0 0]", 2))},
		{"and the end is there", func() *multi.Multi { return ring(2, end-1) }, one, map[int]call{3: one}, ended, slices.Concat(
			still(state(end-2, end-2, []int64{-2, -2}, []int64{0, 0}), 2), still(state(end-1, end-2, []int64{-2, -2}, []int64{0, 0}), 1))},
		{"Offer", fresh, offer(nil, 5), map[int]call{3: offer(nil, 6)}, number(1), slices.Concat(still(blank, 2), still("0 -1 [0 -2] [6 0]", 2), []string{"1 -1 [0 -2] [6 0]", "1 -1 [0 -1] [6 0]", "1 -1 [0 -1] [6 5]", "1 -1 [0 0] [6 5]"})},
	} {
		x.name = "Claim, another one " + x.name
		x.check(t)
	}
}

// TestBetweenLooks: what is written, and what others have claimed and written, while a Claim looks at the slots.
func TestBetweenLooks(t *testing.T) {
	begun := func() *multi.Multi { return after(2, 0, offer(nil, 7), claim(nil, 1)) }
	const half1, half2 = "1 -1 [0 -2] [7 0]", "1 1 [0 -2] [7 0]"
	for _, x := range []watched{
		{"written ahead of S4", begun, claim(nil, 2), map[int]call{5: write(1, 8)}, number(3), slices.Concat(still(half1, 2), still(half2, 1), []string{found, both})},
		{"half written ahead of S4", begun, claim(nil, 2), map[int]call{5: half(write(1, 8), 2)}, full, slices.Concat(still(half1, 2), still(half2, 1), still("1 1 [0 -1] [7 8]", 1))},
		{"written behind S4", begun, claim(nil, 2), map[int]call{6: write(1, 8)}, full, slices.Concat(still(half1, 2), still(half2, 2), []string{found})},
		{"written behind S4, and claimed", begun, claim(nil, 2), map[int]call{6: all(write(1, 8), offer(nil, 9))}, number(4), slices.Concat(still(half1, 2), still(half2, 2), still("2 1 [2 0] [9 8]", 2), still("2 2 [2 0] [9 8]", 2), []string{"4 2 [2 0] [9 8]"})},
		{"claimed ahead of S4", lapped, claim(nil, 1), map[int]call{4: claim(nil, 1)}, number(3), slices.Concat(still(laid, 2), []string{found}, still(more, 4), []string{both})},
		{"claimed ahead of S4, and being written", lapped, claim(nil, 1), map[int]call{4: all(claim(nil, 1), half(write(2, 9), 1))}, number(3), slices.Concat(still(laid, 2), []string{found}, still("2 1 [1 0] [7 8]", 4), []string{"3 1 [1 0] [7 8]"})},
		{"claimed ahead of S4, and written", lapped, claim(nil, 1), map[int]call{4: offer(nil, 9)}, number(3), slices.Concat(still(laid, 2), []string{found}, still("2 1 [2 0] [9 8]", 4), []string{"3 1 [2 0] [9 8]"})},
		{"all claimed ahead of S4, and written", lapped, claim(nil, 2), map[int]call{4: offer(nil, 9, 10)}, number(5), slices.Concat(still(laid, 2), []string{found}, still("3 1 [2 2] [9 10]", 3), still("3 3 [2 2] [9 10]", 2), []string{"5 3 [2 2] [9 10]"})},
	} {
		x.name = "Claim, " + x.name
		x.check(t)
	}
}

// TestBetweenReaders: what a reader has finished right ahead of the step that looks at it counts, and what it finishes behind that doesn't; and what others have seen is good for all.
func TestBetweenReaders(t *testing.T) {
	for _, x := range []struct {
		name   string
		n      int64
		others func(r readers) map[int]call
		want   told
		states []string
	}{
		{"finished ahead of the look", 1, func(r readers) map[int]call { return map[int]call{4: r.finish(1, 1)} }, number(2),
			slices.Concat(still(laid, 4), still("1 0 [0 0] [7 8]", 1), []string{"2 0 [0 0] [7 8]"})},
		{"finished behind the look", 1, func(r readers) map[int]call { return map[int]call{5: r.finish(1, 1)} }, full,
			slices.Concat(still(laid, 4), []string{"1 -1 [0 0] [7 8]"})},
		{"finished behind the one look and ahead of the other", 2, func(r readers) map[int]call { return map[int]call{4: all(r.finish(0, 1), r.finish(1, 1))} }, full,
			slices.Concat(still(laid, 4), []string{"1 0 [0 0] [7 8]"})},
		{"seen by another one ahead of S2", 1, func(r readers) map[int]call {
			return map[int]call{2: all(r.finish(1, 0), claim(r, 2))}
		}, number(2), []string{laid, laid, "1 0 [0 0] [7 8]", "1 0 [0 0] [7 8]", "2 0 [0 0] [7 8]"}},
		{"seen by another one behind S2", 1, func(r readers) map[int]call {
			return map[int]call{3: all(r.finish(1, 0), claim(r, 2)), 5: all(r.finish(1, 1), r.finish(0, 1))}
		}, number(2), slices.Concat(still(laid, 2), still("1 0 [0 0] [7 8]", 3), []string{"2 0 [0 0] [7 8]"})},
		{"what another one has seen is laid over", 1, func(r readers) map[int]call {
			return map[int]call{5: all(r.finish(1, 1), r.finish(0, 1), claim(r, 1), write(2, 9), r.finish(0, 2), claim(r, 2))}
		}, full, slices.Concat(still(laid, 4), []string{"2 -1 [2 0] [9 8]"})},
	} {
		r := at(0, -1)
		watched{"Claim, " + x.name, lapped, claim(r, x.n), x.others(r), x.want, x.states}.check(t)
	}
}

// late is a Holder who looks at who has a say a step ahead of looking at how far they have come.
type late struct{ list *readers }

func (h late) Least(s turn.Stepper, none int64) (int64, int) {
	all := *h.list
	if s != nil {
		s.Step()
	}
	return all.Least(s, none)
}

// TestLate: who is held up behind having looked at who has a say is told how far they have come when another one has joined behind them; that one still holds back.
func TestLate(t *testing.T) {
	both := at(1, -1)
	list := both[:1]
	h := late{&list}
	join := func(m *multi.Multi, _ turn.Stepper) told {
		both.finish(1, m.Cursor(nil))(m, nil)
		list = both
		return done
	}
	meanwhile := all(offer(h, 9, 10), both.finish(0, 3), offer(h, 11, 12), both.finish(0, 5), join, offer(h, 13, 14), both.finish(0, 7))
	const went, tells = "7 5 [6 6] [13 14]", "7 1 [6 6] [13 14]"
	watched{"Claim", lapped, claim(h, 1), map[int]call{4: meanwhile}, full, slices.Concat(still(laid, 3), []string{went}, still(tells, 7), []string{went})}.check(t)
}

// TestEnded: what a call that was ended has left: sequences that are claimed and never written stop all that come behind, till somebody writes them.
func TestEnded(t *testing.T) {
	for steps := range 3 {
		m := after(2, 0, half(claim(nil, 1), steps))
		check(t, m, "Claim behind half a Claim", claim(nil, 1), number(0), 3, "0 -1 [-2 -2] [0 0]")
	}
	for steps := 3; steps < 6; steps++ {
		m := after(2, 0, half(offer(nil, 7), steps), offer(nil, 8))
		stamps, values := m.Ring().Stamps(), m.Ring().Values()
		check(t, m, "Published behind half an Offer", published(0), number(-1), 2, state(1, -1, stamps, values))
		check(t, m, "Published behind what half an Offer has claimed", published(1), number(1), 2, state(1, -1, stamps, values))
		check(t, m, "Claim behind half an Offer", claim(nil, 1), full, 5, state(1, 1, stamps, values))
		check(t, m, "Write then", write(0, 9), done, 3, "1 1 [0 0] [9 8]")
		check(t, m, "Claim then", claim(nil, 2), number(3), 5, "3 1 [0 0] [9 8]")
	}
	for steps := range 6 {
		m := after(2, 0, offer(nil, 7, 8), half(claim(at(1, 1), 2), steps))
		seen := int64(-1)
		if steps > 4 {
			seen = 1
		}
		if want := state(1, seen, []int64{0, 0}, []int64{7, 8}); look(m) != want {
			t.Error(steps, look(m))
		}
		if got := claim(nil, 2)(m, nil); got != number(3) {
			t.Error(steps, got)
		}
	}
}

// breaks is a Holder that panics.
type breaks struct{}

func (breaks) Least(turn.Stepper, int64) (int64, int) { panic("broken") }

// TestBroken: a Holder's own panic is none that a Claim knows: the thread is broken, and the others go on.
func TestBroken(t *testing.T) {
	m := lapped()
	threads := []func(s turn.Stepper){func(s turn.Stepper) { m.Claim(s, breaks{}, 1) }, func(s turn.Stepper) { m.Claim(s, nil, 1) }}
	if _, stuck, broken := turn.Over(threads, []int{0, 0}, 99); stuck || !slices.Equal(broken, []bool{true, false}) || look(m) != more {
		t.Error(stuck, broken, look(m))
	}
}
