package gate_test

import (
	"slices"
	"testing"

	"carillon/api"
	"carillon/gate"
	"carillon/plain"
)

// meeting is a run all of whose schedules behind some first steps can be gone through.
type meeting struct {
	start   []int64
	threads [][]api.Op
	ahead   []int
}

func (m meeting) each(see func(order []int, walkers []*walker)) {
	plain.SchedulesBehind(m.ahead, func() []*walker { return newWalkers(m.start, m.threads) }, see)
}

// grows tells whether nobody joins, and numbers only grow: the meetings have a thread for each place that is set, and it sets higher and higher.
func (m meeting) grows() bool {
	for _, list := range m.threads {
		if slices.ContainsFunc(list, func(o api.Op) bool { return o.Kind == opJoin }) {
			return false
		}
	}
	return true
}

func meetings() []meeting {
	looks := ops(leasts(9), leasts(9))
	return []meeting{
		{nil, [][]api.Op{ops(joins(0, 5)), ops(joins(1, 6))}, nil},
		{nil, [][]api.Op{ops(joins(0, 5)), ops(joins(0, 6))}, nil},
		{numbers(4), [][]api.Op{ops(joins(1, 5), lists), ops(leaves(0))}, nil},
		{numbers(4), [][]api.Op{ops(leaves(0)), ops(leaves(0)), ops(lists, lists)}, nil},
		{numbers(4, 3), [][]api.Op{ops(leaves(0)), ops(leaves(1)), ops(leasts(9))}, nil},
		{nil, [][]api.Op{ops(joins(0, 5), leaves(0)), ops(joins(0, 6))}, nil},
		{nil, [][]api.Op{ops(joins(0, 5), leaves(0)), ops(joins(1, 6), lists)}, nil},
		{nil, [][]api.Op{ops(joins(0, 5)), ops(joins(1, 6)), ops(joins(2, 7))}, plain.Turns(0, 2, 1, 2, 2, 2)},
		{nil, [][]api.Op{ops(joins(0, 5)), ops(joins(0, 6)), ops(joins(1, 7))}, plain.Turns(0, 1, 1, 1, 2, 2)},
		{nil, [][]api.Op{ops(joins(0, 5)), ops(joins(1, 6)), ops(lists)}, plain.Turns(0, 1, 1, 1)},
		{nil, [][]api.Op{ops(joins(0, 5)), ops(leasts(9), gets(0), mays(7, 1))}, nil},
		{numbers(9), [][]api.Op{ops(joins(1, 3)), ops(leasts(0), mays(9, 4))}, nil},
		{numbers(9), [][]api.Op{ops(leaves(0), joins(0, 3)), ops(leasts(0), leasts(0))}, nil},
		{numbers(4, 3), [][]api.Op{ops(sets(0, 6), sets(0, 8)), ops(sets(1, 7)), looks}, nil},
		{numbers(4, 3), [][]api.Op{ops(sets(1, 6), leaves(1)), ops(mays(8, 4), mays(8, 4), mays(7, 4))}, nil},
		{numbers(4, 3, 5), [][]api.Op{ops(leaves(1), leaves(0)), ops(sets(2, 9)), looks}, plain.Turns(0, 1)},
		{numbers(1, 2), [][]api.Op{ops(sets(0, 3), leaves(0)), ops(leaves(1)), ops(leasts(0), mays(5, 2))}, plain.Turns(0, 1)},
		{numbers(4), [][]api.Op{ops(sets(0, 5)), ops(sets(0, 6)), ops(gets(0), gets(0))}, nil},
	}
}

// TestEverySchedule is P1 and P14.7 over every schedule of some threads.
func TestEverySchedule(t *testing.T) {
	outcomes, seen := map[string]bool{}, seen{}
	for i, m := range meetings() {
		runs := 0
		m.each(func(order []int, walkers []*walker) {
			runs++
			want, got := traceOf(walkers), gate.Play(m.start, m.threads, order, 999)
			if want.Order = order; !plain.Same(got, want) {
				t.Fatalf("%d: %v\n%+v\n%+v", i, order, got, want)
			}
			outcomes[plain.Outcome(got)] = true
			seen.check(t, m, got, walkers)
		})
		if runs < 5 || runs > 30000 {
			t.Error(i, "there are", runs)
		}
	}
	if len(outcomes) < 3*len(meetings()) || seen.joined < 1000 || seen.left < 1000 || seen.grown < 100 || seen.allowed < 20 {
		t.Error(len(outcomes), seen)
	}
}

// seen counts what runs have shown: who has joined and who has left, Leasts of which one was ahead of the other and less, and Mays of which the one ahead was allowed.
type seen struct{ joined, left, grown, allowed int }

func (n *seen) check(t *testing.T, m meeting, got api.Trace, walkers []*walker) {
	t.Helper()
	n.checkMembers(t, m, got)
	if m.grows() {
		n.checkGrows(t, got, walkers)
	}
}

// checkMembers: each place is a member once at most, and is one if it has joined once more than it has left.
func (n *seen) checkMembers(t *testing.T, m meeting, got api.Trace) {
	t.Helper()
	times := map[int64]int{}
	for place := range m.start[:min(len(m.start), places)] {
		times[int64(place)]++
	}
	for i, list := range got.Answers {
		for k, a := range list {
			o := m.threads[i][k]
			switch {
			case o.Kind == opJoin && a.OK:
				times[o.A]++
				n.joined++
			case o.Kind == opLeave && a.OK:
				times[o.A]--
				n.left++
			}
		}
	}
	for _, place := range got.State[1:][:got.State[0]] {
		times[place]--
	}
	for place, left := range times {
		if left != 0 {
			t.Fatalf("the place %d: %+v %+v", place, m, got)
		}
	}
}

// looked is an operation that has looked at the least, and when.
type looked struct {
	op api.Op
	a  api.Answer
	at plain.Span
}

// checkGrows is P14.7: what lies behind another one never tells less, and never refuses what that one has allowed.
func (n *seen) checkGrows(t *testing.T, got api.Trace, walkers []*walker) {
	t.Helper()
	var all []looked
	for _, w := range walkers {
		w.Each(func(o api.Op, a api.Answer, at plain.Span) {
			if o.Kind == opLeast && a.List[0] != -1 || o.Kind == opMay {
				all = append(all, looked{o, a, at})
			}
		})
	}
	for _, first := range all {
		for _, later := range all {
			if first.a.OK && first.at.Last < later.at.First {
				n.checkPair(t, got, first, later)
			}
		}
	}
}

func (n *seen) checkPair(t *testing.T, got api.Trace, first, later looked) {
	t.Helper()
	if first.op.Kind == opLeast && later.op.Kind == opLeast {
		if later.a.N < first.a.N {
			t.Fatalf("%+v is behind %+v: %+v", later, first, got)
		}
		if later.a.N > first.a.N {
			n.grown++
		}
	}
	if later.op.Kind == opMay && later.op.A-later.op.B <= first.finished() {
		if !later.a.OK {
			t.Fatalf("%+v is behind %+v: %+v", later, first, got)
		}
		n.allowed++
	}
}

// finished is up to where all members have finished, by what a Least has told, or a May has allowed.
func (x looked) finished() int64 {
	if x.op.Kind == opMay {
		return x.op.A - x.op.B
	}
	return x.a.N
}

// growing are members each of which goes on, and maybe leaves, and others who look.
func (c chance) growing(start []int64, most int) [][]api.Op {
	var all [][]api.Op
	for place, n := range start {
		var list []api.Op
		for range c.between(0, most) {
			n += c.number(0, 3)
			list = append(list, sets(int64(place), n))
		}
		if c.Intn(3) == 0 {
			list = append(list, leaves(int64(place)))
		}
		all = append(all, list)
	}
	for range c.between(1, 2) {
		var list []api.Op
		for range c.between(1, most) {
			list = append(list, []api.Op{leasts(99), mays(c.number(0, 20), c.number(1, 8))}[c.Intn(2)])
		}
		all = append(all, list)
	}
	return all
}

// TestGrows is P14.7 of greater runs.
func TestGrows(t *testing.T) {
	c, seen := dice(5), seen{}
	for range 4000 {
		start := c.start(4)
		m := meeting{start: start, threads: c.growing(start, 8)}
		schedule := c.schedule(0, len(m.threads)-1, 60)
		want, walkers := modelPlay(start, m.threads, schedule, 99999)
		got := gate.Play(start, m.threads, schedule, 99999)
		if !plain.Same(got, want) || got.Stuck {
			t.Fatalf("%+v %v\n%+v\n%+v", m, schedule, got, want)
		}
		seen.check(t, m, got, walkers)
	}
	if seen.left < 1000 || seen.grown < 1000 || seen.allowed < 1000 {
		t.Error(seen)
	}
}

// TestEveryStep is P1 behind each step of many schedules: no step changes more than one number, or lays more than one list, of one member more or less.
func TestEveryStep(t *testing.T) {
	c, joined, left := dice(4), 0, 0
	for range 400 {
		start, threads := c.start(3), c.threads(5)
		schedule := c.schedule(0, len(threads)-1, 30)
		var before []int64
		for most := 0; ; most++ {
			run := gate.Play(start, threads, schedule, most)
			if want, _ := modelPlay(start, threads, schedule, most); !plain.Same(run, want) {
				t.Fatalf("%v %v %v %d\n%+v\n%+v", start, threads, schedule, most, run, want)
			}
			if most > 0 {
				switch members, numbers := changes(before, run.State); {
				case members != 0 && numbers != 0 || numbers > 1 || members > 1 || members < -1:
					t.Fatalf("%v %v %v %d: %v was %v", start, threads, schedule, most, run.State, before)
				case members == 1:
					joined++
				case members == -1:
					left++
				}
			}
			if before = run.State; !run.Stuck {
				break
			}
		}
	}
	if joined < 300 || left < 150 {
		t.Error(joined, left)
	}
}

// changes tells how many members there are more, or less, and how many numbers are others; 2 members if the others aren't in the order in which they were.
func changes(before, after []int64) (members, changed int) {
	was, numbersWere := before[1:1+before[0]], before[1+before[0]:]
	are, numbersAre := after[1:1+after[0]], after[1+after[0]:]
	for place := range places {
		if numbersWere[place] != numbersAre[place] {
			changed++
		}
	}
	members = len(are) - len(was)
	switch members {
	case 0:
		if !slices.Equal(was, are) {
			return 2, changed
		}
	case 1:
		if !slices.Equal(was, are[:len(was)]) {
			return 2, changed
		}
	case -1:
		gone := slices.IndexFunc(was, func(place int64) bool { return !slices.Contains(are, place) })
		if !slices.Equal(slices.Concat(was[:gone], was[gone+1:]), are) {
			return 2, changed
		}
	}
	return members, changed
}

// TestFreeIsSomeSchedule is P2 for this layer: what free threads answer and leave is among what all schedules give.
func TestFreeIsSomeSchedule(t *testing.T) {
	for i, m := range meetings() {
		if len(m.ahead) > 0 {
			continue
		}
		can := map[string]bool{}
		m.each(func(_ []int, walkers []*walker) { can[plain.Outcome(traceOf(walkers))] = true })
		if len(can) < 2 {
			t.Error(i, "all schedules give the same")
		}
		if got, there := plain.Foreign(func() api.Trace { return gate.Free(m.start, m.threads) }, 500, can); there {
			t.Fatalf("%d: no schedule gives %+v", i, got)
		}
	}
}
