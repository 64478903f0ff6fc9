package multi_test

import (
	"slices"
	"testing"

	"carillon/api"
	"carillon/multi"
	"carillon/plain"
)

// meeting is a run all of whose schedules behind some first steps can be gone through. It is fair where what is claimed is written by who has claimed it, once at most, and readers only go on.
type meeting struct {
	start   []int64
	threads [][]api.Op
	ahead   []int
	fair    bool
}

func (m meeting) each(see func(order []int, walkers []*walker)) {
	plain.SchedulesBehind(m.ahead, func() []*walker { return newWalkers(m.start, m.threads) }, see)
}

func meetings() []meeting {
	one, two := ops(claims(1)), ops(claims(2))
	return []meeting{
		{numbers(2), [][]api.Op{one, one}, nil, true},
		{numbers(2, 7), [][]api.Op{one, two}, nil, true},
		{numbers(4), [][]api.Op{one, two, one}, plain.Turns(0, 2, 1, 2, 2, 1), true},
		{numbers(2, end-2), [][]api.Op{one, one, ops(cursors)}, nil, true},
		{numbers(2, end-1), [][]api.Op{one, one}, nil, true},
		{numbers(1), [][]api.Op{ops(offers(5, 1)), ops(offers(6, 1))}, nil, true},
		{numbers(1, 3), [][]api.Op{ops(claims(1), writes(0, 5)), ops(offers(6, 1))}, nil, true},
		{numbers(1), [][]api.Op{ops(offers(5, 1), offers(6, 1)), ops(offers(7, 1))}, plain.Turns(0, 6), true},
		{numbers(1), [][]api.Op{ops(offers(5, 1), offers(6, 1)), ops(gets(0), gets(1))}, plain.Turns(0, 5), true},
		{numbers(2), [][]api.Op{ops(offers(5, 2)), ops(publisheds(0), gets(1))}, nil, true},
		{numbers(2, 5), [][]api.Op{ops(claims(2), writes(1, 6), writes(0, 5)), ops(publisheds(5), gets(5))}, nil, true},
		{numbers(2), [][]api.Op{ops(offers(5, 1)), ops(offers(6, 1)), ops(publisheds(0))}, plain.Turns(0, 2, 1, 2), true},
		{numbers(2), [][]api.Op{ops(offers(5, 2), claims(1)), ops(claims(1))}, plain.Turns(0, 5), true},
		{numbers(2), [][]api.Op{ops(offers(5, 2), claims(2)), ops(claims(2))}, plain.Turns(0, 8), true},
		{numbers(1, 0, -1), [][]api.Op{ops(offers(5, 1), offers(6, 1)), ops(finishes(0, 0))}, nil, true},
		{numbers(1, 0, -1), [][]api.Op{ops(offers(5, 1), claims(1)), one, ops(finishes(0, 0))}, plain.Turns(0, 6), true},
		{numbers(1, 0, -1, -1), [][]api.Op{ops(offers(5, 1), claims(1)), ops(finishes(0, 0)), ops(finishes(1, 0))}, plain.Turns(0, 6), true},
		{numbers(2, 4, 3), [][]api.Op{ops(offers(5, 2), claims(1)), one, ops(finishes(0, 4), finishes(0, 9))}, plain.Turns(0, 11, 1, 2), true},
		{numbers(1, 0, -1), [][]api.Op{ops(offers(5, 1), claims(1)), ops(finishes(0, 0), finishes(0, -1))}, plain.Turns(0, 6), false},
		{numbers(2), [][]api.Op{ops(claims(2), writes(0, 5), writes(0, 6)), ops(gets(0), gets(0))}, plain.Turns(0, 3), false},
	}
}

// TestEverySchedule is P1 and P13.7 over every schedule of some threads.
func TestEverySchedule(t *testing.T) {
	outcomes, seen := map[string]bool{}, seen{}
	for i, m := range meetings() {
		runs := 0
		m.each(func(order []int, walkers []*walker) {
			runs++
			want, got := traceOf(walkers), multi.Play(m.start, m.threads, order, 999)
			if want.Order = order; !plain.Same(got, want) {
				t.Fatalf("%d: %v\n%+v\n%+v", i, order, got, want)
			}
			outcomes[plain.Outcome(got)] = true
			if m.fair {
				seen.check(t, m.threads, got, walkers[0].ring)
			}
		})
		if runs < 5 || runs > 30000 {
			t.Error(i, "there are", runs)
		}
	}
	if len(outcomes) < 3*len(meetings()) || seen.claimed < 1000 || seen.again < 1000 || seen.full < 1000 || seen.found < 100 {
		t.Error(len(outcomes), seen)
	}
}

// seen counts what runs have shown: sequences that were claimed, slots that were laid anew, Claims that were refused, and values that were found.
type seen struct{ claimed, again, full, found int }

// check holds a fair run that is over against P13.7. What stood where ahead of each step the ring of the plain reading tells, whose run is the same.
func (n *seen) check(t *testing.T, threads [][]api.Op, got api.Trace, r *shared) {
	t.Helper()
	n.checkAnswers(t, threads, got, r.first)
	log := append(slices.Clone(r.log), got.State)
	for i := range got.Order {
		n.checkStep(t, log[i], log[i+1], r)
	}
}

// checkAnswers: no sequence is claimed by two, none is left out, and each thread's rise; what is found at one is what was written there. It tells what was written.
func (n *seen) checkAnswers(t *testing.T, threads [][]api.Op, got api.Trace, first int64) map[int64]int64 {
	t.Helper()
	written := map[int64]int64{}
	var all []int64
	for i, list := range got.Answers {
		own := n.ownSequences(threads[i], list, written)
		if !slices.IsSorted(own) {
			t.Fatalf("thread %d has claimed %v: %+v", i, own, got)
		}
		all = append(all, own...)
	}
	slices.Sort(all)
	for i, q := range all {
		if q != first+int64(i) {
			t.Fatalf("claimed are %v: %+v", all, got)
		}
	}
	if cursor := got.State[0]; first+int64(len(all))-1 != cursor {
		t.Fatalf("claimed are %v, and the cursor is %d", all, cursor)
	}
	n.claimed += len(all)
	n.checkFound(t, threads, got, written)
	return written
}

// ownSequences are those that a thread has claimed, in its own order; what it has written there is laid into written.
func (n *seen) ownSequences(ops []api.Op, list []api.Answer, written map[int64]int64) []int64 {
	var own, last []int64
	for k, a := range list {
		o := ops[k]
		switch {
		case !a.OK && (o.Kind == opClaim || o.Kind == opOffer):
			n.full++
		case !a.OK:
		case o.Kind == opClaim:
			last = from(a.N-o.A, o.A)
			own = append(own, last...)
		case o.Kind == opWrite:
			written[last[o.A]] = o.C
		case o.Kind == opOffer:
			for j, q := range from(a.N-o.B, o.B) {
				own = append(own, q)
				written[q] = o.A + int64(j)
			}
		}
	}
	return own
}

// from are the n sequences behind q.
func from(q, n int64) []int64 {
	var all []int64
	for i := range n {
		all = append(all, q+1+i)
	}
	return all
}

func (n *seen) checkFound(t *testing.T, threads [][]api.Op, got api.Trace, written map[int64]int64) {
	t.Helper()
	for i, list := range got.Answers {
		for k, a := range list {
			o := threads[i][k]
			if o.Kind == opGet && a.OK {
				if v, there := written[o.A]; !there || v != a.N {
					t.Fatalf("%v at %d: %+v", a, o.A, got)
				}
				n.found++
			}
			if o.Kind != opPublished {
				continue
			}
			for q := o.A; q <= a.N; q++ {
				if _, there := written[q]; !there {
					t.Fatalf("%d isn't written, and %v tells so: %+v", q, a, got)
				}
				n.found++
			}
		}
	}
}

// checkStep: where a step claims, all readers have finished what is in the slots (P4), and it was written; what is seen no reader is behind of; and a slot is laid by one at a time, with rising laps.
func (n *seen) checkStep(t *testing.T, before, after []int64, r *shared) {
	t.Helper()
	stamps := 2 + len(r.words)
	words := before[2:stamps]
	for q := before[0] + 1; q <= after[0]; q++ {
		for k, done := range words {
			if done < q-r.size {
				t.Fatal("reader", k, "hasn't finished", q-r.size, before, after)
			}
		}
		if lies := before[stamps+int(q%r.size)]; q-r.size >= r.first && lies != (q-r.size)/r.size*2 {
			t.Fatal(q-r.size, "isn't written", before, after)
		}
	}
	if after[0] < before[0] || slices.Min(append(slices.Clone(after[2:stamps]), after[0])) < after[1] {
		t.Fatal("the cursor, or what is seen", before, after)
	}
	for slot := range int(r.size) {
		was, is := before[stamps+slot], after[stamps+slot]
		if was == is {
			continue
		}
		if was > is || is%2 == 0 && is != was+1 || is%2 != 0 && was%2 != 0 || was >= 0 && is != was+1 {
			t.Fatal("a stamp goes from", was, "to", is)
		}
		if is%2 != 0 && was >= 0 {
			n.again++
		}
	}
}

// TestSo is P13.7 of greater runs.
func TestSo(t *testing.T) {
	c, seen := dice(5), seen{}
	for range 4000 {
		start := numbers(1<<c.Intn(4), c.number(0, 9))
		for range c.Intn(3) {
			start = append(start, start[1]-1+c.number(0, 1))
		}
		threads := c.fair(start, c.between(1, 3), 12)
		schedule := c.schedule(0, len(threads)-1, 150)
		want, walkers := modelPlay(start, threads, schedule, 99999)
		got := multi.Play(start, threads, schedule, 99999)
		if !plain.Same(got, want) || got.Stuck {
			t.Fatalf("%v %v %v\n%+v\n%+v", start, threads, schedule, got, want)
		}
		seen.check(t, threads, got, walkers[0].ring)
	}
	if seen.claimed < 30000 || seen.again < 20000 || seen.full < 10000 || seen.found < 1000 {
		t.Error(seen)
	}
}

// TestEveryStep is P1 behind each step of many schedules: no step changes more than one place.
func TestEveryStep(t *testing.T) {
	c, seen := dice(4), seen{}
	for range 200 {
		start := numbers(1<<c.Intn(3), c.number(0, 3))
		for range c.Intn(3) {
			start = append(start, start[1]-1)
		}
		threads := c.fair(start, c.between(1, 3), 5)
		schedule := c.schedule(0, len(threads)-1, 40)
		var before []int64
		for most := 0; ; most++ {
			run := multi.Play(start, threads, schedule, most)
			want, walkers := modelPlay(start, threads, schedule, most)
			if !plain.Same(run, want) {
				t.Fatalf("%v %v %v %d\n%+v\n%+v", start, threads, schedule, most, run, want)
			}
			if most > 0 {
				changed := 0
				for i, v := range run.State {
					if v != before[i] {
						changed++
					}
				}
				if changed > 1 {
					t.Fatalf("%v %v %v %d: %v was %v", start, threads, schedule, most, run.State, before)
				}
				seen.checkStep(t, before, run.State, walkers[0].ring)
			}
			if before = run.State; !run.Stuck {
				break
			}
		}
	}
	if seen.again < 300 {
		t.Error(seen)
	}
}
