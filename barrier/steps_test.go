package barrier_test

import (
	"slices"
	"strings"
	"testing"

	"carillon/api"
	"carillon/barrier"
	"carillon/turn"
)

func some() *hall { return over(5, 3, 4) }
func loud() *hall {
	h := some()
	h.b.Alert(nil)
	return h
}

var (
	quietSome = state(false, 5, 3, 4)
	loudSome  = state(true, 5, 3, 4)
)

// TestOrder: what each call steps at, in order; a thread that is ended there has done nothing more.
func TestOrder(t *testing.T) {
	for _, x := range []watched{
		{"Alert", some, alert, nil, done, "a", loudSome},
		{"Alert again", loud, alert, nil, not, "a", loudSome},
		{"Clear", loud, calm, nil, done, "a", quietSome},
		{"Clear again", some, calm, nil, not, "a", quietSome},
		{"Alerted", some, alerted, nil, not, "a", quietSome},
		{"Alerted, and it is", loud, alerted, nil, done, "a", loudSome},
		{"Limit", some, limit, nil, number(3), "012", quietSome},
		{"Limit with an alert", loud, limit, nil, number(3), "012", loudSome},
		{"Eager", some, wait(3, 9, barrier.Eager), nil, number(3), "a012", quietSome},
		{"Eager for too much", some, wait(4, 2, barrier.Eager), nil, empty, "a012a012", quietSome},
		{"Eager with an alert", loud, wait(3, 9, barrier.Eager), nil, closed, "a", loudSome},
		{"Lean", some, wait(3, 9, barrier.Lean), nil, number(3), "a0a1a2", quietSome},
		{"Lean for too much", some, wait(4, 4, barrier.Lean), nil, empty, "a0a1a1a1", quietSome},
		{"Lean with an alert", loud, wait(3, 9, barrier.Lean), nil, closed, "a", loudSome},
		{"Rare", some, wait(3, 9, barrier.Rare), nil, number(3), "a012", quietSome},
		{"Rare for too much", some, wait(4, 10, barrier.Rare), nil, empty, rareTrail("012", 10), quietSome},
		{"Rare with an alert", loud, wait(3, 9, barrier.Rare), nil, closed, "a", loudSome},
	} {
		x.check(t)
		x.checkEnds(t)
	}
}

// TestBetweenAlerts: what is told is what there was right ahead of the step.
func TestBetweenAlerts(t *testing.T) {
	for _, x := range []watched{
		{"Alert, another one is ahead", some, alert, map[int]call{1: alert}, not, "a", loudSome},
		{"Alert, another one clears ahead", loud, alert, map[int]call{1: calm}, done, "a", loudSome},
		{"Clear, another one is ahead", loud, calm, map[int]call{1: calm}, not, "a", quietSome},
		{"Clear, another one alerts ahead", some, calm, map[int]call{1: alert}, done, "a", quietSome},
		{"Alerted, another one alerts ahead", some, alerted, map[int]call{1: alert}, done, "a", loudSome},
		{"Alerted, another one clears ahead", loud, alerted, map[int]call{1: calm}, not, "a", quietSome},
	} {
		x.check(t)
	}
}

// TestBetweenLimit: each number is as it is at its own step.
func TestBetweenLimit(t *testing.T) {
	for _, x := range []watched{
		{"the least one goes on ahead of its step", some, limit, map[int]call{2: put(1, 9)}, number(4), "012", state(false, 5, 9, 4)},
		{"the least one goes on behind its step", some, limit, map[int]call{3: put(1, 9)}, number(3), "012", state(false, 5, 9, 4)},
		{"the first one falls ahead of its step", some, limit, map[int]call{1: put(0, 1)}, number(1), "012", state(false, 1, 3, 4)},
		{"the first one falls behind its step", some, limit, map[int]call{2: put(0, 1)}, number(3), "012", state(false, 1, 3, 4)},
		{"the last one falls ahead of its step", some, limit, map[int]call{3: put(2, 1)}, number(1), "012", state(false, 5, 3, 1)},
		{"all go on one behind the other", some, limit, map[int]call{1: put(0, 20), 2: put(1, 30), 3: put(2, 40)}, number(20), "012", state(false, 20, 30, 40)},
		{"somebody alerts", some, limit, map[int]call{1: alert}, number(3), "012", loudSome},
	} {
		x.name = "Limit, " + x.name
		x.check(t)
	}
}

// TestBetweenEager: a try tells what its own steps have found, all of them.
func TestBetweenEager(t *testing.T) {
	for _, x := range []watched{
		{"all go on ahead of S1", some, wait(6, 1, barrier.Eager), map[int]call{1: all(put(0, 6), put(1, 7), put(2, 8))}, number(6), "a012", state(false, 6, 7, 8)},
		{"all go on behind the alert", some, wait(6, 1, barrier.Eager), map[int]call{2: all(put(0, 8), put(1, 7), put(2, 6))}, number(6), "a012", state(false, 8, 7, 6)},
		{"the least one goes on ahead of its step", some, wait(4, 1, barrier.Eager), map[int]call{3: put(1, 6)}, number(4), "a012", state(false, 5, 6, 4)},
		{"the least one goes on behind its step", some, wait(4, 1, barrier.Eager), map[int]call{4: put(1, 6)}, empty, "a012", state(false, 5, 6, 4)},
		{"the least one goes on behind its step, another try", some, wait(4, 2, barrier.Eager), map[int]call{4: put(1, 6)}, number(4), "a012a012", state(false, 5, 6, 4)},
		{"the first one has gone on when the try has failed", some, wait(4, 9, barrier.Eager), map[int]call{5: put(1, 4)}, number(4), "a012a012", state(false, 5, 4, 4)},
		{"the third try", some, wait(4, 9, barrier.Eager), map[int]call{9: put(1, 6), 10: put(0, 4)}, number(4), "a012a012a012", state(false, 4, 6, 4)},
		{"each try looks at all anew", some, wait(5, 9, barrier.Eager), map[int]call{5: put(1, 6), 9: put(2, 9), 10: put(0, 7)}, number(6), "a012a012a012", state(false, 7, 6, 9)},
		{"one falls back when it was found", some, wait(4, 2, barrier.Eager), map[int]call{5: all(put(0, 1), put(1, 9))}, empty, "a012a012", state(false, 1, 9, 4)},
		{"somebody alerts ahead of S1", some, wait(3, 9, barrier.Eager), map[int]call{1: alert}, closed, "a", loudSome},
		{"somebody alerts behind S1", some, wait(3, 9, barrier.Eager), map[int]call{2: alert}, number(3), "a012", loudSome},
		{"somebody alerts behind S1 of a try that fails", some, wait(4, 9, barrier.Eager), map[int]call{2: alert}, closed, "a012a", loudSome},
		{"somebody alerts in the last try", some, wait(4, 2, barrier.Eager), map[int]call{6: alert}, empty, "a012a012", loudSome},
		{"somebody alerts, and clears ahead of the next look", some, wait(4, 2, barrier.Eager), map[int]call{2: alert, 4: calm}, empty, "a012a012", quietSome},
		{"somebody alerts, and all go on", some, wait(4, 2, barrier.Eager), map[int]call{5: all(put(1, 9), alert)}, closed, "a012a", state(true, 5, 9, 4)},
	} {
		x.name = "Eager, " + x.name
		x.check(t)
	}
}

// TestBetweenLean: who was far enough isn't looked at again; what it had then is what counts.
func TestBetweenLean(t *testing.T) {
	for _, x := range []watched{
		{"all go on ahead of S1", some, wait(6, 3, barrier.Lean), map[int]call{1: all(put(0, 6), put(1, 7), put(2, 8))}, number(6), "a0a1a2", state(false, 6, 7, 8)},
		{"the first one goes on behind its step", some, wait(3, 3, barrier.Lean), map[int]call{3: put(0, 9)}, number(3), "a0a1a2", state(false, 9, 3, 4)},
		{"all go on behind their steps", some, wait(3, 3, barrier.Lean), map[int]call{3: put(0, 9), 5: put(1, 9)}, number(3), "a0a1a2", state(false, 9, 9, 4)},
		{"the others go on", some, wait(4, 9, barrier.Lean), map[int]call{3: all(put(0, 9), put(1, 8), put(2, 7))}, number(5), "a0a1a2", state(false, 9, 8, 7)},
		{"the first one falls behind its step", some, wait(3, 3, barrier.Lean), map[int]call{3: put(0, 1)}, number(3), "a0a1a2", state(false, 1, 3, 4)},
		{"the second one is waited for", some, wait(4, 9, barrier.Lean), map[int]call{8: put(1, 6)}, number(4), "a0a1a1a1a2", state(false, 5, 6, 4)},
		{"the first and the last one are waited for", some, wait(6, 9, barrier.Lean), map[int]call{4: all(put(0, 6), put(1, 9)), 10: put(2, 7)}, number(6), "a0a0a1a2a2", state(false, 6, 9, 7)},
		{"the last one goes on in the last try", some, wait(5, 4, barrier.Lean), map[int]call{1: put(1, 5), 8: put(2, 5)}, number(5), "a0a1a2a2", state(false, 5, 5, 5)},
		{"the last one goes on behind the last try", some, wait(5, 3, barrier.Lean), map[int]call{1: put(1, 5)}, empty, "a0a1a2", state(false, 5, 5, 4)},
		{"the tries are used up at the second one", some, wait(4, 2, barrier.Lean), map[int]call{4: put(1, 9)}, empty, "a0a1", state(false, 5, 9, 4)},
		{"somebody alerts ahead of S1", some, wait(3, 9, barrier.Lean), map[int]call{1: alert}, closed, "a", loudSome},
		{"somebody alerts behind the first look", some, wait(3, 9, barrier.Lean), map[int]call{2: alert}, closed, "a0a", loudSome},
		{"somebody alerts ahead of the last look", some, wait(3, 9, barrier.Lean), map[int]call{5: alert}, closed, "a0a1a", loudSome},
		{"somebody alerts behind the last look", some, wait(3, 9, barrier.Lean), map[int]call{6: alert}, number(3), "a0a1a2", loudSome},
		{"somebody alerts while one is waited for", some, wait(4, 9, barrier.Lean), map[int]call{9: alert}, closed, "a0a1a1a1a", loudSome},
		{"somebody alerts behind the last try's look", some, wait(4, 3, barrier.Lean), map[int]call{6: alert}, empty, "a0a1a1", loudSome},
		{"somebody alerts, and clears ahead of the next look", some, wait(3, 9, barrier.Lean), map[int]call{2: alert, 3: calm}, number(3), "a0a1a2", quietSome},
	} {
		x.name = "Lean, " + x.name
		x.check(t)
	}
}

// TestBetweenRare: an alert is found in the first try, the ninth, the seventeenth, and so on, and in no other one.
func TestBetweenRare(t *testing.T) {
	for _, x := range []watched{
		{"all go on ahead of S1", some, wait(6, 1, barrier.Rare), map[int]call{1: all(put(0, 6), put(1, 7), put(2, 8))}, number(6), "a012", state(false, 6, 7, 8)},
		{"the least one goes on behind its step", some, wait(4, 2, barrier.Rare), map[int]call{4: put(1, 6)}, number(4), "a012012", state(false, 5, 6, 4)},
		{"the least one goes on behind the last try's step", some, wait(4, 1, barrier.Rare), map[int]call{4: put(1, 6)}, empty, "a012", state(false, 5, 6, 4)},
		{"somebody alerts ahead of S1", some, wait(3, 9, barrier.Rare), map[int]call{1: alert}, closed, "a", loudSome},
		{"somebody alerts behind S1", some, wait(3, 9, barrier.Rare), map[int]call{2: alert}, number(3), "a012", loudSome},
		{"somebody alerts, and then all go on", some, wait(4, 9, barrier.Rare), map[int]call{2: alert, 23: put(1, 4)}, number(4), rareTrail("012", 8), state(true, 5, 4, 4)},
		{"somebody alerts behind S1, eight tries", some, wait(4, 8, barrier.Rare), map[int]call{2: alert}, empty, rareTrail("012", 8), loudSome},
		{"somebody alerts behind S1, nine tries", some, wait(4, 9, barrier.Rare), map[int]call{2: alert}, closed, rareTrail("012", 8) + "a", loudSome},
		{"somebody alerts in the eighth try", some, wait(4, 99, barrier.Rare), map[int]call{25: alert}, closed, rareTrail("012", 8) + "a", loudSome},
		{"somebody alerts ahead of the ninth try", some, wait(4, 99, barrier.Rare), map[int]call{26: alert}, closed, rareTrail("012", 8) + "a", loudSome},
		{"somebody alerts in the ninth try", some, wait(4, 99, barrier.Rare), map[int]call{27: alert}, closed, rareTrail("012", 16) + "a", loudSome},
		{"somebody alerts in the seventeenth try", some, wait(4, 99, barrier.Rare), map[int]call{53: alert}, closed, rareTrail("012", 24) + "a", loudSome},
		{"somebody alerts, and clears ahead of the ninth try", some, wait(4, 99, barrier.Rare), map[int]call{2: alert, 26: calm, 30: put(1, 7)}, number(4), rareTrail("012", 10), state(false, 5, 7, 4)},
		{"all go on in the ninth try, ahead of which somebody alerts", some, wait(4, 9, barrier.Rare), map[int]call{26: all(put(1, 9), alert)}, closed, rareTrail("012", 8) + "a", state(true, 5, 9, 4)},
	} {
		x.name = "Rare, " + x.name
		x.check(t)
	}
}

// TestRareLooks: at each try of so many at which somebody may alert, the next look finds it.
func TestRareLooks(t *testing.T) {
	const tries = 40
	for try := 1; try <= tries; try++ {
		// Ahead of the first step of that try.
		first := len(rareTrail("0", try-1)) + 1
		found := (try + 6) / 8 * 8
		x := watched{"Rare", func() *hall { return over(5) }, wait(6, tries, barrier.Rare), map[int]call{first: alert}, closed, rareTrail("0", found) + "a", state(true, 5)}
		if found >= tries {
			x.want, x.trail = empty, strings.TrimSuffix(x.trail, "a")
		}
		x.check(t)
	}
}

// TestOver: a thread that is ended by the turnstile at a step of its Wait has changed nothing, and the others go on.
func TestOver(t *testing.T) {
	for _, way := range ways() {
		h := some()
		threads := []func(s turn.Stepper){func(s turn.Stepper) { wait(9, api.MostTries, way)(h, s) }, func(s turn.Stepper) { alert(h, s) }}
		order, stuck, broken := turn.Over(threads, []int{0, 0, 0}, 3)
		if !stuck || len(order) != 3 || slices.Contains(broken, true) || look(h) != quietSome {
			t.Error(way, order, stuck, broken, look(h))
		}
		if got := wait(3, 3, way)(h, nil); got != number(3) {
			t.Error(way, got)
		}
	}
}

// breaks is a source that panics.
type breaks struct{}

func (breaks) Load(turn.Stepper) int64 { panic("broken") }

// TestBroken: a source's own panic is none that a call knows: the thread is broken, and the others go on.
func TestBroken(t *testing.T) {
	h := some()
	b := barrier.New(source{h.words[0], '0'}, breaks{})
	threads := []func(s turn.Stepper){func(s turn.Stepper) { b.Limit(s) }, func(s turn.Stepper) { h.b.Limit(s) }}
	for _, way := range ways() {
		threads = append(threads, func(s turn.Stepper) { b.Wait(s, 3, 2, way) })
	}
	if order, stuck, broken := turn.Over(threads, nil, 99); stuck || !slices.Equal(broken, []bool{true, false, true, true, true}) || len(order) != 1+3+2+3+2 || look(h) != quietSome {
		t.Error(order, stuck, broken, look(h))
	}
}
