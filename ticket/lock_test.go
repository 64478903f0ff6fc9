package ticket_test

import (
	"fmt"
	"math"
	"slices"
	"testing"

	"carillon/api"
	"carillon/turn"
)

// TestLockAlone is P9.1 to P9.4 and P9.7 of a thread that is alone, wherever next and serving stand; the gate stays as it is.
func TestLockAlone(t *testing.T) {
	for next := range int64(4) {
		for serving := range int64(4) {
			from := func() both { return at(next, serving, 2) }
			check(t, from(), "Draw", draw, api.Answer{N: next}, 1, next+1, serving, 2)
			for _, n := range []int64{math.MinInt64, -1 << 32, -2, -1, 0, 1, 2, 3, 4, 1 << 32, 1<<32 + 1, math.MaxInt64} {
				after := serving
				if n == serving {
					after++
				}
				check(t, from(), fmt.Sprint("Leave of ", n), leave(n), truth(n == serving), 1, next, after, 2)
			}
			for asked, counted := range tries() {
				checkTries(t, from, asked, counted)
			}
		}
	}
}

// checkTries holds Called and Try against as many tries as count.
func checkTries(t *testing.T, from func() both, asked, counted int) {
	t.Helper()
	next, serving := from().lock.Numbers()
	for _, n := range []int64{math.MinInt64, -1, 0, 1, 2, 3, 4, math.MaxInt64} {
		name, steps := fmt.Sprint("Called of ", n, " with tries ", asked), counted
		if n == serving {
			steps = 1
		}
		check(t, from(), name, called(n, asked), truth(n == serving), steps, next, serving, 2)
	}
	name := fmt.Sprint("Try of tries ", asked)
	if next == serving {
		check(t, from(), name, try(asked), yes(serving), 2, next+1, serving, 2)
		return
	}
	check(t, from(), name, try(asked), nothing, 2*counted, next, serving, 2)
}

// TestTickets: each ticket is drawn once, and called up when the one ahead of it has left.
func TestTickets(t *testing.T) {
	b := fresh()
	for n := range int64(200) {
		check(t, b, "Draw", draw, api.Answer{N: n}, 1, n+1, 0, 0)
	}
	for n := range int64(200) {
		check(t, b, "Called of the next one", called(n+1, 2), nothing, 2, 200, n, 0)
		check(t, b, "Leave of the next one", leave(n+1), nothing, 1, 200, n, 0)
		check(t, b, "Called", called(n, 2), yes(0), 1, 200, n, 0)
		check(t, b, "Try", try(3), nothing, 6, 200, n, 0)
		check(t, b, "Leave", leave(n), yes(0), 1, 200, n+1, 0)
		check(t, b, "Leave again", leave(n), nothing, 1, 200, n+1, 0)
	}
	for n := range int64(20) {
		check(t, b, "Try", try(3), yes(200+n), 2, 201+n, 200+n, 0)
		check(t, b, "Leave", leave(200+n), yes(0), 1, 201+n, 201+n, 0)
	}
}

// TestNeverLeft is P9.8's last words: a ticket that is drawn and never leaves shuts the lock for all that are drawn behind it.
func TestNeverLeft(t *testing.T) {
	for _, in := range []call{draw, try(1)} {
		b := fresh()
		in(b, nil)
		for n := range int64(5) {
			check(t, b, "Draw", draw, api.Answer{N: n + 1}, 1, n+2, 0, 0)
			check(t, b, "Called", called(n+1, 1024), nothing, 1024, n+2, 0, 0)
			check(t, b, "Leave", leave(n+1), nothing, 1, n+2, 0, 0)
			check(t, b, "Try", try(1024), nothing, 2048, n+2, 0, 0)
		}
	}
}

// TestLockTries: each try fails up to the last one, or one more is done, whichever of its steps fails.
func TestLockTries(t *testing.T) {
	pass := all(try(1), func(b both, s turn.Stepper) api.Answer {
		_, serving := b.lock.Numbers()
		return leave(serving)(b, s)
	})
	for asked, counted := range tries() {
		for fail := counted - 1; fail <= counted; fail++ {
			ok, n := fail < counted, int64(fail)
			others := map[int]call{}
			for i := range fail {
				others[2*i+2] = pass
			}
			x := between{"Try, passed ahead of each S2", fresh(), try(asked), others, nothing, 2 * fail, []int64{n, n, 0}}
			if ok {
				x.answer, x.steps, x.after = yes(n), 2*fail+2, []int64{n + 1, n, 0}
			}
			x.check(t)
			x = between{"Try, left ahead of S1", at(1, 0, 0), try(asked), map[int]call{2*fail + 1: leave(0)}, nothing, 2 * counted, []int64{1, 0, 0}}
			if ok {
				x.answer, x.steps, x.after = yes(1), 2*fail+2, []int64{2, 1, 0}
			}
			x.check(t)
			x = between{"Called, left ahead of S1", at(2, 0, 0), called(1, asked), map[int]call{fail + 1: leave(0)}, nothing, counted, []int64{2, 0, 0}}
			if ok {
				x.answer, x.steps, x.after = yes(0), fail+1, []int64{2, 1, 0}
			}
			x.check(t)
		}
	}
}

// TestLockSteps: what is to be seen ahead of each step.
func TestLockSteps(t *testing.T) {
	shut, open := []int64{2, 1, 0}, []int64{2, 2, 0}
	for _, x := range []ordered{
		{"Draw", shut, draw, api.Answer{N: 2}, [][]int64{shut, {3, 1, 0}}},
		{"Called", shut, called(1, 5), yes(0), [][]int64{shut, shut}},
		{"Called of the one behind", shut, called(2, 3), nothing, slices.Repeat([][]int64{shut}, 4)},
		{"Called of one that has left", shut, called(0, 2), nothing, slices.Repeat([][]int64{shut}, 3)},
		{"Called of one that isn't drawn", open, called(2, 2), yes(0), [][]int64{open, open}},
		{"Leave", shut, leave(1), yes(0), [][]int64{shut, open}},
		{"Leave of the one behind", shut, leave(2), nothing, [][]int64{shut, shut}},
		{"Leave of one that isn't drawn", open, leave(2), yes(0), [][]int64{open, {2, 3, 0}}},
		{"Try", open, try(4), yes(2), [][]int64{open, open, {3, 2, 0}}},
		{"Try while somebody is in", shut, try(2), nothing, slices.Repeat([][]int64{shut}, 5)},
		{"Try where more have left than have drawn", []int64{1, 2, 0}, try(2), nothing, slices.Repeat([][]int64{{1, 2, 0}}, 5)},
	} {
		x.check(t)
	}
}

// TestBetweenLock: what another one does right ahead of a step is what that step finds.
func TestBetweenLock(t *testing.T) {
	for _, x := range []between{
		{"Draw, drawn ahead of S1", at(2, 1, 0), draw, map[int]call{1: draw}, api.Answer{N: 3}, 1, []int64{4, 1, 0}},
		{"Draw, left ahead of S1", at(2, 1, 0), draw, map[int]call{1: leave(1)}, api.Answer{N: 2}, 1, []int64{3, 2, 0}},
		{"Called, left ahead of S1", at(2, 1, 0), called(1, 1), map[int]call{1: leave(1)}, nothing, 1, []int64{2, 2, 0}},
		{"Called, called ahead of S1", at(2, 1, 0), called(2, 1), map[int]call{1: leave(1)}, yes(0), 1, []int64{2, 2, 0}},
		{"Called, called ahead of the second S1", at(2, 1, 0), called(2, 2), map[int]call{2: leave(1)}, yes(0), 2, []int64{2, 2, 0}},
		{"Called, called and left", at(4, 1, 0), called(2, 3), map[int]call{2: all(leave(1), leave(2))}, nothing, 3, []int64{4, 3, 0}},
		{"Leave, left ahead of S1", at(2, 1, 0), leave(1), map[int]call{1: leave(1)}, nothing, 1, []int64{2, 2, 0}},
		{"Leave, called ahead of S1", at(2, 1, 0), leave(2), map[int]call{1: leave(1)}, yes(0), 1, []int64{2, 3, 0}},
		{"Try, drawn ahead of S1", at(1, 1, 0), try(1), map[int]call{1: draw}, nothing, 2, []int64{2, 1, 0}},
		{"Try, left ahead of S1", at(1, 0, 0), try(1), map[int]call{1: leave(0)}, yes(1), 2, []int64{2, 1, 0}},
		{"Try, left ahead of S2", at(1, 0, 0), try(1), map[int]call{2: leave(0)}, nothing, 2, []int64{1, 1, 0}},
		{"Try, left ahead of S2, of two tries", at(1, 0, 0), try(2), map[int]call{2: leave(0)}, yes(1), 4, []int64{2, 1, 0}},
		{"Try, drawn ahead of S2", at(1, 1, 0), try(1), map[int]call{2: draw}, nothing, 2, []int64{2, 1, 0}},
		{"Try, drawn ahead of S2, of three tries", at(1, 1, 0), try(3), map[int]call{2: draw}, nothing, 6, []int64{2, 1, 0}},
		{"Try, another one in ahead of S2", at(1, 1, 0), try(1), map[int]call{2: try(1)}, nothing, 2, []int64{2, 1, 0}},
		{"Try, another one in and out ahead of S2", at(1, 1, 0), try(2), map[int]call{2: all(try(1), leave(1))}, yes(2), 4, []int64{3, 2, 0}},
		{"Try, serving passed by ahead of S2", at(1, 1, 0), try(1), map[int]call{2: leave(1)}, yes(1), 2, []int64{2, 2, 0}},
		{"Try, drawn up to serving ahead of S2", at(0, 2, 0), try(1), map[int]call{2: all(draw, draw)}, yes(2), 2, []int64{3, 2, 0}},
		{"Try, half done ahead of S1", at(1, 1, 0), try(1), map[int]call{1: half(try(1), 1)}, yes(1), 2, []int64{2, 1, 0}},
	} {
		x.check(t)
	}
}
