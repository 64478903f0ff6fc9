package slots_test

import (
	"math"
	"slices"
	"testing"

	"carillon/api"
	"carillon/plain"
	"carillon/slots"
)

// shared is what all threads share, by a plain reading of the chapter's words, and how many steps they have done; also what its state was ahead of each of them.
type shared struct {
	size           int64
	stamps, values []int64
	steps          int
	log            [][]int64
}

// newShared has the size 0 where the start gives none that can be.
func newShared(start []int64) *shared {
	r := &shared{}
	if len(start) == 0 || start[0] < 1 || start[0] > api.MostSize || api.MostSize%start[0] != 0 {
		return r
	}
	r.size = start[0]
	r.stamps, r.values = slices.Repeat([]int64{-2}, int(r.size)), make([]int64, r.size)
	for q, v := range start[1:] {
		r.stamps[int64(q)%r.size], r.values[int64(q)%r.size] = 2*(int64(q)/r.size), v
	}
	return r
}

func (r *shared) state() []int64 { return slices.Concat(r.stamps, r.values) }

func good(q int64) bool { return 0 <= q && q < api.MostSequence }

// still tells which operations have no step.
func (r *shared) still(o api.Op) (api.Answer, bool) {
	switch {
	case r.size == 0 || o.Kind < opPut || o.Kind > opGather:
		return nothing, true
	case o.Kind == opHighest:
		return yes(max(o.A, math.MinInt64+1) - 1), !good(o.A) || o.B < o.A
	case o.Kind == opThere:
		return nothing, !good(o.A)
	case !good(o.A):
		return refused(api.ErrRange), true
	}
	return listed(), o.Kind == opGather && o.B < 1
}

// walker is a thread of that reading: the stamp and the value that its operation has loaded, and what it has gathered.
type walker struct {
	plain.Walk
	ring   *shared
	stamp  int64
	value  int64
	found  []int64
	looked int64
}

func (w *walker) end(a api.Answer) {
	w.End(a)
	w.found, w.looked = nil, 0
}

func (w *walker) Step() {
	w.Count()
	w.ring.log = append(w.ring.log, w.ring.state())
	switch o := w.Op(); o.Kind {
	case opPut:
		w.put(o.A, o.B)
	case opGet:
		if v, err, ended := w.get(o.A); ended && err == api.OK {
			w.end(yes(v))
		} else if ended {
			w.end(refused(err))
		}
	case opThere:
		w.end(api.Answer{OK: w.there(o.A)})
	case opHighest:
		w.highest(o.A, o.B)
	case opGather:
		w.gather(o.A, o.B)
	}
}

func (w *walker) there(q int64) bool { return w.ring.stamps[q%w.ring.size] == 2*(q/w.ring.size) }

func (w *walker) put(q, v int64) {
	slot, lap := q%w.ring.size, q/w.ring.size
	switch w.At {
	case 1:
		w.ring.stamps[slot] = 2*lap - 1
	case 2:
		w.ring.values[slot] = v
	default:
		w.ring.stamps[slot] = 2 * lap
		w.end(yes(0))
		return
	}
	w.At++
}

// get is a step of a Get of q, and whether it has ended with it.
func (w *walker) get(q int64) (v int64, err api.Errno, ended bool) {
	slot, lap := q%w.ring.size, q/w.ring.size
	switch w.At {
	case 1:
		w.stamp = w.ring.stamps[slot]
		if w.stamp < 2*lap {
			return 0, api.ErrNone, true
		}
		if w.stamp > 2*lap {
			return 0, api.ErrLost, true
		}
	case 2:
		w.value = w.ring.values[slot]
	default:
		if w.ring.stamps[slot] != w.stamp {
			return 0, api.ErrLost, true
		}
		return w.value, api.OK, true
	}
	w.At++
	return 0, api.OK, false
}

func (w *walker) highest(from, to int64) {
	q := from + w.looked
	w.looked++
	if !w.there(q) {
		w.end(yes(q - 1))
	} else if q == to || !good(q+1) || w.looked == w.ring.size {
		w.end(yes(q))
	}
}

func (w *walker) gather(from, most int64) {
	v, err, ended := w.get(from + w.looked)
	if !ended {
		return
	}
	w.At = 1
	w.looked++
	if err != api.OK && w.looked == 1 {
		w.end(refused(err))
		return
	}
	if err == api.OK {
		w.found = append(w.found, v)
	}
	if err != api.OK || w.looked == most || w.looked == w.ring.size || !good(from+w.looked) {
		w.end(listed(w.found...))
	}
}

func newWalkers(start []int64, threads [][]api.Op) []*walker {
	r := newShared(start)
	var walkers []*walker
	for _, ops := range threads {
		walkers = append(walkers, &walker{Walk: plain.NewWalk(ops, &r.steps, r.still), ring: r})
	}
	return walkers
}

func modelPlay(start []int64, threads [][]api.Op, schedule []int, most int) (api.Trace, []*walker) {
	walkers := newWalkers(start, threads)
	return plain.Follow(walkers, schedule, most, walkers[0].ring.state), walkers
}

func traceOf(walkers []*walker) api.Trace { return plain.TraceOf(walkers, walkers[0].ring.state()) }

// meeting is a run all of whose schedules behind some first steps can be gone through.
type meeting struct {
	start   []int64
	threads [][]api.Op
	ahead   []int
}

func (m meeting) each(see func(order []int, walkers []*walker)) {
	plain.SchedulesBehind(m.ahead, func() []*walker { return newWalkers(m.start, m.threads) }, see)
}

func meetings() []meeting {
	return []meeting{
		{[]int64{2, 7}, [][]api.Op{ops(gets(0)), ops(puts(2, 9))}, nil},
		{[]int64{1}, [][]api.Op{ops(puts(0, 5), puts(1, 6)), ops(gets(0), gets(1))}, nil},
		{[]int64{1, 4}, [][]api.Op{ops(puts(1, 5), puts(2, 6)), ops(gets(1), gets(1))}, nil},
		{[]int64{1, 4}, [][]api.Op{ops(puts(1, 5), puts(2, 6)), ops(theres(0), theres(1), gets(0), theres(2))}, nil},
		{[]int64{2, 4, 5}, [][]api.Op{ops(puts(2, 6), puts(3, 7)), ops(highests(0, 9), highests(1, 2), highests(2, 3))}, nil},
		{[]int64{2, 4, 5}, [][]api.Op{ops(puts(2, 6), puts(3, 7)), ops(gathers(0, 9))}, nil},
		{[]int64{2, 4, 5}, [][]api.Op{ops(puts(2, 6), puts(3, 7)), ops(gathers(1, 2))}, nil},
		{[]int64{2, 4}, [][]api.Op{ops(puts(1, 5), puts(2, 6)), ops(gathers(0, 1), gathers(1, 1))}, nil},
		{[]int64{2, 4, 5}, [][]api.Op{ops(puts(2, 6)), ops(puts(3, 7)), ops(gets(2))}, nil},
		{[]int64{2, 4, 5}, [][]api.Op{ops(puts(2, 6)), ops(puts(3, 7)), ops(highests(1, 9))}, nil},
		{[]int64{2, 4, 5}, [][]api.Op{ops(puts(2, 6)), ops(puts(3, 7)), ops(gathers(2, 9))}, nil},
		{[]int64{1, 4}, [][]api.Op{ops(puts(1, 5)), ops(puts(2, 6)), ops(gets(1))}, nil},
		{[]int64{1}, [][]api.Op{ops(puts(0, 5)), ops(gets(0)), ops(gets(0), theres(0))}, nil},
		{[]int64{4, 4, 5, 6, 7}, [][]api.Op{ops(puts(4, 8), puts(5, 9)), ops(gathers(0, 9))}, plain.Turns(1, 6)},
		{[]int64{2, 4, 5}, [][]api.Op{ops(puts(2, 6), puts(4, 7)), ops(gathers(1, 9)), ops(gets(4))}, plain.Turns(0, 3, 1, 4)},
	}
}

// TestEverySchedule is P1, P11.3 and P11.5 over every schedule of some threads.
func TestEverySchedule(t *testing.T) {
	outcomes, meant, apart := map[string]bool{}, 0, 0
	for i, m := range meetings() {
		runs := 0
		m.each(func(order []int, walkers []*walker) {
			runs++
			want, got := traceOf(walkers), slots.Play(m.start, m.threads, order, 999)
			if want.Order = order; !plain.Same(got, want) {
				t.Fatalf("%d: %v\n%+v\n%+v", i, order, got, want)
			}
			outcomes[plain.Outcome(got)] = true
			checkHighest(t, order, walkers)
			if rising(m.start, walkers) {
				apart++
				meant += checkMeant(t, m.start, order, walkers)
			}
		})
		if runs < 10 || runs > 20000 {
			t.Error(i, "there are", runs)
		}
	}
	if len(outcomes) < 3*len(meetings()) || meant < 1000 || apart < 1000 {
		t.Error(len(outcomes), meant, apart)
	}
}

// laid is a Put of a run that is over.
type laid struct {
	q, v int64
	at   plain.Span
}

// putsOf are the Puts that are done, with those ahead of the run.
func putsOf(start []int64, walkers []*walker) []laid {
	var list []laid
	for q, v := range start[1:] {
		list = append(list, laid{int64(q), v, plain.Span{First: -1, Last: -1}})
	}
	for _, w := range walkers {
		w.Each(func(o api.Op, a api.Answer, at plain.Span) {
			if o.Kind == opPut && a.OK {
				list = append(list, laid{o.A, o.B, at})
			}
		})
	}
	return list
}

// rising tells whether no two Puts into one slot go on at one time, and the laps that are put into a slot rise.
func rising(start []int64, walkers []*walker) bool {
	size, last := walkers[0].ring.size, map[int64]laid{}
	list := putsOf(start, walkers)
	slices.SortStableFunc(list, func(a, b laid) int { return a.at.First - b.at.First })
	for _, x := range list {
		if before, any := last[x.q%size]; any && (before.at.Last > x.at.First || before.q >= x.q) {
			return false
		}
		last[x.q%size] = x
	}
	return true
}

// checkMeant holds what was got and gathered against P11.3 and P8: what was put for that very sequence, and stood there with its stamp at some step. It tells how many there are.
func checkMeant(t *testing.T, start []int64, order []int, walkers []*walker) int {
	t.Helper()
	r, count, put := walkers[0].ring, 0, map[int64]int64{}
	for _, x := range putsOf(start, walkers) {
		put[x.q] = x.v
	}
	for n, w := range walkers {
		w.Each(func(o api.Op, a api.Answer, at plain.Span) {
			list := a.List
			if o.Kind == opGet && a.OK {
				list = []int64{a.N}
			}
			for i, v := range list {
				q := o.A + int64(i)
				if want, any := put[q]; !any || v != want || !stood(r, at, q, v) {
					t.Fatalf("%v: thread %d has %d at %d, where %d was put", order, n, v, q, want)
				}
				count++
			}
		})
	}
	return count
}

// stood tells whether the value v stood there with the stamp of q's lap ahead of some of these steps.
func stood(r *shared, at plain.Span, q, v int64) bool {
	return slices.ContainsFunc(r.log[at.First:at.Last+1], func(state []int64) bool {
		return state[q%r.size] == 2*(q/r.size) && state[r.size+q%r.size] == v
	})
}

// checkHighest holds Highest against P11.5: all up to the answer were there, one after the other, and the next one wasn't, unless there is none to be looked at.
func checkHighest(t *testing.T, order []int, walkers []*walker) {
	t.Helper()
	r := walkers[0].ring
	for n, w := range walkers {
		w.Each(func(o api.Op, a api.Answer, at plain.Span) {
			if o.Kind != opHighest || at.First < 0 {
				return
			}
			q := o.A
			for i := at.First; i <= at.Last; i++ {
				if order[i] != n {
					continue
				}
				if there := r.log[i][q%r.size] == 2*(q/r.size); there != (q <= a.N) {
					t.Fatalf("%v: thread %d has looked at %d, and has found %d", order, n, q, a.N)
				}
				q++
			}
			if q <= a.N || q > a.N+2 || q == a.N+1 && a.N != o.B && q-o.A < r.size && good(q) {
				t.Fatalf("%v: thread %d has looked up to %d, and has found %d", order, n, q, a.N)
			}
		})
	}
}

// TestEveryStep is P1 behind each step of many schedules: no step changes more than one place.
func TestEveryStep(t *testing.T) {
	c := dice(4)
	for range 500 {
		start, threads, schedule := c.start(), c.threads(3, 5), c.schedule(0, 2, 30)
		before := newShared(start).state()
		for most := 0; ; most++ {
			run := slots.Play(start, threads, schedule, most)
			if want, _ := modelPlay(start, threads, schedule, most); !plain.Same(run, want) {
				t.Fatalf("%v %v %v %d\n%+v\n%+v", start, threads, schedule, most, run, want)
			}
			changed := 0
			for i, v := range run.State {
				if v != before[i] {
					changed++
				}
			}
			if changed > 1 || most == 0 && changed > 0 {
				t.Fatalf("%v %v %v %d: %v was %v", start, threads, schedule, most, run.State, before)
			}
			before = run.State
			if !run.Stuck {
				break
			}
		}
	}
}

// TestMeant is P11.3 and P11.5 of greater runs, in which each writer has slots of its own.
func TestMeant(t *testing.T) {
	c, meant := dice(5), 0
	for range 4000 {
		start, threads := c.writersAndReaders()
		schedule := c.schedule(0, len(threads)-1, 80)
		want, walkers := modelPlay(start, threads, schedule, 9999)
		got := slots.Play(start, threads, schedule, 9999)
		if !plain.Same(got, want) {
			t.Fatalf("%v %v %v\n%+v\n%+v", start, threads, schedule, got, want)
		}
		if !rising(start, walkers) {
			t.Fatal("two at one time", start, threads)
		}
		checkHighest(t, got.Order, walkers)
		meant += checkMeant(t, start, got.Order, walkers)
	}
	if meant < 10000 {
		t.Error(meant)
	}
}
