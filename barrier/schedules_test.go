package barrier_test

import (
	"slices"
	"testing"

	"carillon/api"
	"carillon/barrier"
	"carillon/plain"
)

// meeting is a run all of whose schedules behind some first steps can be gone through.
type meeting struct {
	words   []int64
	threads [][]api.Op
	ahead   []int
}

func (m meeting) each(see func(order []int, walkers []*walker)) {
	plain.SchedulesBehind(m.ahead, func() []*walker { return newWalkers(m.words, m.threads) }, see)
}

func meetings() []meeting {
	two := numbers(2, 0)
	return []meeting{
		{two, [][]api.Op{ops(waits(2, 2, eager)), ops(adds(1, 2), adds(0, 1), adds(1, 5))}, nil},
		{two, [][]api.Op{ops(waits(2, 3, lean)), ops(adds(1, 2), adds(0, 1), adds(1, 5))}, nil},
		{two, [][]api.Op{ops(waits(2, 2, rare)), ops(adds(1, 2), adds(0, 1), adds(1, 5))}, nil},
		{two, [][]api.Op{ops(waits(2, 2, eager)), ops(adds(1, 3)), ops(alerts)}, nil},
		{two, [][]api.Op{ops(waits(2, 3, lean)), ops(adds(1, 3)), ops(alerts)}, nil},
		{two, [][]api.Op{ops(waits(2, 2, rare)), ops(adds(1, 3)), ops(alerts)}, nil},
		{numbers(0), [][]api.Op{ops(waits(2, 10, rare)), ops(adds(0, 1), adds(0, 1)), ops(alerts)}, plain.Turns(0, 6)},
		{numbers(0), [][]api.Op{ops(waits(2, 10, rare)), ops(alerts, clears)}, nil},
		{numbers(0), [][]api.Op{ops(waits(1, 3, eager), limits), ops(alerts, adds(0, 1), clears)}, nil},
		{numbers(0), [][]api.Op{ops(waits(1, 3, lean), isAlerted), ops(alerts, adds(0, 1), clears)}, nil},
		{numbers(4, 3, 5), [][]api.Op{ops(limits, limits), ops(adds(1, 3), adds(0, 4)), ops(adds(2, 2))}, nil},
		{numbers(4, 3), [][]api.Op{ops(limits, waits(3, 2, lean)), ops(stores(0, 1), stores(1, 9))}, nil},
		{numbers(1), [][]api.Op{ops(alerts, clears), ops(alerts, clears), ops(isAlerted, isAlerted)}, nil},
		{numbers(1), [][]api.Op{ops(alerts), ops(alerts), ops(waits(1, 1, lean), waits(1, 1, rare))}, nil},
		{two, [][]api.Op{ops(waits(1, 2, lean)), ops(waits(1, 1, eager)), ops(adds(1, 1))}, nil},
		{nil, [][]api.Op{ops(waits(1, 9, eager), alerts, limits, isAlerted), ops(isAlerted, waits(0, 9, rare), clears)}, nil},
	}
}

// TestEverySchedule is P1 and P15.5 over every schedule of some threads.
func TestEverySchedule(t *testing.T) {
	outcomes, seen := map[string]bool{}, seen{}
	for i, m := range meetings() {
		runs := 0
		m.each(func(order []int, walkers []*walker) {
			runs++
			want, got := traceOf(walkers), barrier.Play(m.words, m.threads, order, 999)
			if want.Order = order; !plain.Same(got, want) {
				t.Fatalf("%d: %v\n%+v\n%+v", i, order, got, want)
			}
			outcomes[plain.Outcome(got)] = true
			seen.check(t, m, walkers)
		})
		if runs < 5 || runs > 30000 {
			t.Error(i, "there are", runs)
		}
	}
	if len(outcomes) < 3*len(meetings()) {
		t.Error(len(outcomes))
	}
	seen.enough(t, 100)
}

// seen counts what runs have shown: waits that were OK, those of them for what had been there at their beginning, those that were given up, and those that were closed; and limits that were less than what there was at their end.
type seen struct{ reached, there, given, closed, behind int }

func (n *seen) enough(t *testing.T, least int) {
	t.Helper()
	if min(n.reached, n.there, n.given, n.closed, n.behind) < least {
		t.Errorf("%+v", *n)
	}
}

// check is P15.5 of a run whose words only grow.
func (n *seen) check(t *testing.T, m meeting, walkers []*walker) {
	t.Helper()
	was := append(slices.Clone(walkers[0].hall.was), walkers[0].hall.now())
	if !grow(was) {
		return
	}
	for _, w := range walkers {
		w.Each(func(o api.Op, a api.Answer, at plain.Span) {
			ok := true
			switch {
			case at.First < 0:
			case o.Kind == opWait:
				ok = n.checkWait(o, a, was[at.First:at.Last+1])
			case o.Kind == opLimit:
				ok = n.checkLimit(a, was[at.First:at.Last+1])
			}
			if !ok {
				t.Fatalf("%+v: %+v is told %+v at %+v of %+v", m, o, a, at, was)
			}
		})
	}
}

func grow(was []moment) bool {
	for i := range was[1:] {
		for k, x := range was[i].words {
			if was[i+1].words[k] < x {
				return false
			}
		}
	}
	return true
}

// checkWait tells whether the answer can be, by what there was ahead of each step from its first to its last one.
func (n *seen) checkWait(o api.Op, a api.Answer, was []moment) bool {
	before, after := slices.Min(was[0].words), slices.Min(was[len(was)-1].words)
	alerted := slices.ContainsFunc(was, func(x moment) bool { return x.alert })
	enough := before >= o.A && (o.C != lean || triesOf(o) >= len(was[0].words))
	if enough && !alerted && !a.OK {
		return false
	}
	switch {
	case a.OK:
		n.reached++
		if enough {
			n.there++
		}
		return a.N >= o.A && a.N >= before && a.N <= after
	case a.N == int64(api.ErrClosed):
		n.closed++
		return alerted
	}
	n.given++
	return a.N == int64(api.ErrEmpty) && !enough
}

// checkLimit likewise.
func (n *seen) checkLimit(a api.Answer, was []moment) bool {
	before, after := slices.Min(was[0].words), slices.Min(was[len(was)-1].words)
	if a.N < after {
		n.behind++
	}
	return a.OK && a.N >= before && a.N <= after
}

// growing are threads whose words only grow: who adds, who waits, who alerts.
func (c chance) growing(words, most int) [][]api.Op {
	var all [][]api.Op
	for range c.between(1, 3) {
		var list []api.Op
		for range c.between(0, most) {
			list = append(list, adds(c.number(0, words-1), c.number(0, 3)))
		}
		all = append(all, list)
	}
	for range c.between(1, 3) {
		var list []api.Op
		for range c.between(0, most) {
			list = append(list, []api.Op{limits, waits(c.number(0, 12), c.tries(), c.number(1, 3))}[min(c.Intn(4), 1)])
		}
		all = append(all, list)
	}
	if c.Intn(3) == 0 {
		all = append(all, ops(alerts, clears, alerts, clears)[:c.Intn(5)])
	}
	return all
}

// TestGrows is P15.5 of greater runs.
func TestGrows(t *testing.T) {
	c, seen := dice(5), seen{}
	for range 5000 {
		m := meeting{words: c.counts(1, 4)}
		m.threads = c.growing(len(m.words), 8)
		schedule := c.schedule(0, len(m.threads)-1, 90)
		want, walkers := modelPlay(m.words, m.threads, schedule, 99999)
		got := barrier.Play(m.words, m.threads, schedule, 99999)
		if !plain.Same(got, want) || got.Stuck {
			t.Fatalf("%+v %v\n%+v\n%+v", m, schedule, got, want)
		}
		seen.check(t, m, walkers)
	}
	seen.enough(t, 300)
}

// counts are some words of small numbers.
func (c chance) counts(least, most int) []int64 {
	var words []int64
	for range c.between(least, most) {
		words = append(words, c.number(-1, 5))
	}
	return words
}

// TestEveryStep is P1 behind each step of many schedules: no step changes more than one thing.
func TestEveryStep(t *testing.T) {
	c, changed := dice(4), 0
	for range 800 {
		words, threads := c.words(0, 3), c.threads(4)
		schedule := c.schedule(0, len(threads)-1, 30)
		var before []int64
		for most := 0; ; most++ {
			run := barrier.Play(words, threads, schedule, most)
			if want, _ := modelPlay(words, threads, schedule, most); !plain.Same(run, want) {
				t.Fatalf("%v %v %v %d\n%+v\n%+v", words, threads, schedule, most, run, want)
			}
			n := 0
			for i := range before {
				if before[i] != run.State[i] {
					n++
				}
			}
			if n > 1 {
				t.Fatalf("%v %v %v %d: %v was %v", words, threads, schedule, most, run.State, before)
			}
			changed += n
			if before = run.State; !run.Stuck {
				break
			}
		}
	}
	if changed < 300 {
		t.Error(changed)
	}
}

// TestFreeIsSomeSchedule is P2 for this layer: what free threads answer and leave is among what all schedules give.
func TestFreeIsSomeSchedule(t *testing.T) {
	for i, m := range meetings() {
		if len(m.ahead) > 0 {
			continue
		}
		can := map[string]bool{}
		m.each(func(_ []int, walkers []*walker) { can[plain.Outcome(traceOf(walkers))] = true })
		if len(can) < 2 {
			t.Error(i, "all schedules give the same")
		}
		if got, there := plain.Foreign(func() api.Trace { return barrier.Free(m.words, m.threads) }, 500, can); there {
			t.Fatalf("%d: no schedule gives %+v", i, got)
		}
	}
}
