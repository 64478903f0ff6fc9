package solo_test

import (
	"slices"
	"testing"

	"carillon/api"
	"carillon/plain"
	"carillon/solo"
)

// meeting is a run all of whose schedules behind some first steps can be gone through. It is fair where all that is claimed is put and published in order.
type meeting struct {
	size, readers int
	threads       [][]api.Op
	ahead         []int
	fair          bool
}

func (m meeting) each(see func(order []int, walkers []*walker)) {
	plain.SchedulesBehind(m.ahead, func() []*walker { return newWalkers(m.size, m.readers, m.threads) }, see)
}

func meetings() []meeting {
	one := ops(writes(5, 1), writes(6, 1))
	return []meeting{
		{1, 1, [][]api.Op{append(one, writes(7, 1)), ops(reads, reads, reads)}, nil, true},
		{1, 1, [][]api.Op{one, ops(batches(9), batches(9), batches(9))}, nil, true},
		{1, 1, [][]api.Op{append(one, writes(7, 1)), ops(reads, reads, batches(2))}, plain.Turns(0, 4), true},
		{1, 2, [][]api.Op{one, ops(reads), ops(reads)}, plain.Turns(0, 4, 1, 1, 2, 2), true},
		{1, 2, [][]api.Op{ops(writes(5, 1), claims(1), claims(1)), ops(reads), ops(reads)}, plain.Turns(0, 4, 1, 3, 2, 3), false},
		{2, 1, [][]api.Op{ops(writes(5, 2), writes(7, 1)), ops(reads, reads)}, nil, true},
		{2, 1, [][]api.Op{ops(writes(5, 2), writes(7, 2)), ops(batches(9), batches(9))}, plain.Turns(0, 7), true},
		{2, 1, [][]api.Op{ops(writes(5, 2), writes(7, 1), writes(8, 1)), ops(reads, batches(9))}, plain.Turns(0, 7), true},
		{2, 1, [][]api.Op{ops(writes(5, 1), writes(6, 1), writes(7, 2)), ops(batches(1), reads)}, plain.Turns(0, 3), true},
		{2, 1, [][]api.Op{ops(claims(2), puts(1, 6), puts(0, 5), publishes(1)), ops(reads, batches(9), reads)}, nil, true},
		{2, 1, [][]api.Op{ops(claims(2), puts(0, 5), publishes(0), puts(1, 6), publishes(1)), ops(batches(9), reads)}, nil, true},
		{2, 1, [][]api.Op{ops(claims(1), claims(1), puts(1, 6), publishes(1), claims(1)), ops(batches(9), reads, batches(9))}, nil, false},
		{2, 1, [][]api.Op{ops(claims(2), puts(0, 5), publishes(1), claims(1)), ops(batches(9), batches(9))}, nil, false},
		{2, 2, [][]api.Op{ops(writes(5, 2), writes(7, 1)), ops(reads), ops(batches(2))}, plain.Turns(0, 7, 1, 3, 2, 5), true},
		{2, 2, [][]api.Op{ops(writes(5, 2), claims(2), claims(1)), ops(reads), ops(reads)}, plain.Turns(0, 7, 1, 2, 2, 2), false},
		{4, 1, [][]api.Op{ops(writes(5, 3), writes(8, 3)), ops(batches(2), batches(2))}, plain.Turns(0, 10, 1, 7), true},
	}
}

// TestEverySchedule is P1 and P12.7 over every schedule of some threads.
func TestEverySchedule(t *testing.T) {
	outcomes, seen := map[string]bool{}, seen{}
	for i, m := range meetings() {
		runs := 0
		m.each(func(order []int, walkers []*walker) {
			runs++
			want, got := traceOf(walkers), solo.Play(m.size, m.readers, m.threads, order, 999)
			if want.Order = order; !plain.Same(got, want) {
				t.Fatalf("%d: %v\n%+v\n%+v", i, order, got, want)
			}
			outcomes[plain.Outcome(got)] = true
			if m.fair {
				seen.check(t, m.threads, got, walkers)
			}
		})
		if runs < 10 || runs > 30000 {
			t.Error(i, "there are", runs)
		}
	}
	if len(outcomes) < 3*len(meetings()) || seen.values < 1000 || seen.again < 1000 || seen.full < 1000 {
		t.Error(len(outcomes), seen)
	}
}

// seen counts what runs have shown: values that were read, slots that were laid anew, and Writes that were refused.
type seen struct{ values, again, full int }

// check holds a fair run against P12.7. What stood where ahead of a step the walkers tell, whose run is the same.
func (n *seen) check(t *testing.T, threads [][]api.Op, got api.Trace, walkers []*walker) {
	t.Helper()
	n.checkValues(t, threads, got)
	log := append(walkers[0].ring.log, got.State)
	for i := range got.Order {
		n.checkLaid(t, log[i], log[i+1], walkers[0].ring)
	}
	n.checkFull(t, walkers)
}

// checkValues: each reader's values are the first ones of those that were put, and nothing but an empty ring refuses.
func (n *seen) checkValues(t *testing.T, threads [][]api.Op, got api.Trace) {
	t.Helper()
	put := map[int64]int64{}
	for i, a := range got.Answers[0] {
		switch o := threads[0][i]; {
		case !a.OK:
		case o.Kind == opPut:
			put[o.A] = o.B
		case o.Kind == opWrite:
			for j := range o.B {
				put[a.N+j] = o.A + j
			}
		}
	}
	for k, list := range got.Answers[1:] {
		q := int64(0)
		for i, a := range list {
			values, kind := a.List, threads[1+k][i].Kind
			if !a.OK {
				if a.N != int64(api.ErrEmpty) && (kind == opRead || kind == opBatch) {
					t.Fatalf("reader %d: %+v", k, got)
				}
				continue
			}
			if kind == opRead {
				values = []int64{a.N}
			}
			for _, v := range values {
				if want, there := put[q]; !there || v != want {
					t.Fatalf("reader %d has %d at %d: %+v", k, v, q, got)
				}
				q++
				n.values++
			}
		}
		if got.State[2+k] > q-1 {
			t.Fatalf("reader %d has finished %d: %+v", k, got.State[2+k], got)
		}
	}
}

// checkLaid is P4: where a step begins to lay a sequence, all readers have finished the one that stood in its slot; and a stamp never goes back.
func (n *seen) checkLaid(t *testing.T, before, after []int64, r *shared) {
	t.Helper()
	numbers, stamps := before[2:2+r.readers], 2+r.readers
	for slot := range r.size {
		was, is := before[stamps+slot], after[stamps+slot]
		if was > is && is%2 == 0 {
			t.Fatal("a stamp goes back", before, after)
		}
		if was == is || is < 1 || is%2 == 0 {
			continue
		}
		n.again++
		stood := (is-1)/2*r.size + slot
		for k, done := range numbers {
			if done < stood {
				t.Fatal("reader", k, "hasn't finished", stood, before, after)
			}
		}
	}
}

// checkFull: what was refused found a reader too far behind at some step.
func (n *seen) checkFull(t *testing.T, walkers []*walker) {
	t.Helper()
	r := walkers[0].ring
	walkers[0].Each(func(o api.Op, a api.Answer, at plain.Span) {
		if o.Kind != opWrite || a.OK || a.N != int64(api.ErrFull) {
			return
		}
		n.full++
		wanted := r.log[at.First][0] + o.B - 1
		if !slices.ContainsFunc(r.log[at.First:at.Last+1], func(state []int64) bool {
			return slices.ContainsFunc(state[2:2+r.readers], func(done int64) bool { return done < wanted-r.size })
		}) {
			t.Fatal(o, "was refused", r.log[at.First:at.Last+1])
		}
	})
}

// TestSo is P12.7 of greater runs.
func TestSo(t *testing.T) {
	c, seen := dice(5), seen{}
	for range 5000 {
		size, readers := 1<<c.Intn(4), c.between(1, 3)
		threads := [][]api.Op{c.fairWriter(size, 20)}
		for range readers {
			threads = append(threads, c.reader(20))
		}
		schedule := c.schedule(0, readers, 120)
		want, walkers := modelPlay(size, readers, threads, schedule, 9999)
		got := solo.Play(size, readers, threads, schedule, 9999)
		if !plain.Same(got, want) {
			t.Fatalf("%d %d %v %v\n%+v\n%+v", size, readers, threads, schedule, got, want)
		}
		seen.check(t, threads, got, walkers)
	}
	if seen.values < 30000 || seen.again < 10000 || seen.full < 10000 {
		t.Error(seen)
	}
}

// TestEveryStep is P1 behind each step of many schedules: no step changes more than one place, and P4 as it is to be seen.
func TestEveryStep(t *testing.T) {
	c, seen := dice(4), seen{}
	for range 300 {
		size, readers := 1<<c.Intn(3), c.between(0, 2)
		threads, schedule := c.threads(size, readers, 6), c.schedule(0, 2, 30)
		var before []int64
		for most := 0; ; most++ {
			run := solo.Play(size, readers, threads, schedule, most)
			want, walkers := modelPlay(size, readers, threads, schedule, most)
			if !plain.Same(run, want) {
				t.Fatalf("%d %d %v %v %d\n%+v\n%+v", size, readers, threads, schedule, most, run, want)
			}
			if most > 0 {
				changed := 0
				for i, v := range run.State[1:] {
					if v != before[1+i] {
						changed++
					}
				}
				if changed > 1 {
					t.Fatalf("%d %d %v %v %d: %v was %v", size, readers, threads, schedule, most, run.State, before)
				}
				seen.checkLaid(t, before, run.State, walkers[0].ring)
			}
			if before = run.State; !run.Stuck {
				break
			}
		}
	}
	if seen.again < 100 {
		t.Error(seen)
	}
}
