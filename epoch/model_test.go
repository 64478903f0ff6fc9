package epoch_test

import (
	"slices"
	"testing"

	"carillon/api"
	"carillon/epoch"
	"carillon/plain"
)

// shared is what all threads share, by a plain reading of the chapter's words, and how many steps they have done.
type shared struct {
	epoch int64
	marks []int64
	steps int
}

func (m *shared) state() []int64 { return append([]int64{m.epoch}, m.marks...) }

// waits is a thing and its epoch.
type waits struct{ thing, epoch int64 }

// walker is a thread of that reading: which member it is, its own memory, and what its operation has loaded.
type walker struct {
	plain.Walk
	all    *shared
	me     int
	inside bool
	things []waits
	loaded int64
}

// still tells which operations have no step.
func (w *walker) still(o api.Op) (api.Answer, bool) {
	if o.Kind == opEnter && w.inside || o.Kind == opLeave && !w.inside {
		return nothing, true
	}
	return plain.Outside(opCollect)(o)
}

func (w *walker) Step() {
	w.Count()
	switch m, o := w.all, w.Op(); {
	case o.Kind == opLeave:
		m.marks[w.me], w.inside = 0, false
		w.End(yes(0))
	case w.At == 1 && o.Kind == opRetire:
		w.things = append(w.things, waits{o.A, m.epoch})
		w.End(yes(m.epoch))
	case w.At == 1 && o.Kind == opCollect:
		w.End(listed(w.collect()...))
	case w.At == 1:
		w.loaded = m.epoch
		w.At = 2
	case o.Kind == opEnter:
		m.marks[w.me], w.inside = w.loaded+1, true
		w.End(yes(w.loaded))
	default:
		w.advance(w.At - 2)
	}
}

func (w *walker) collect() []int64 {
	var list []int64
	var left []waits
	for _, x := range w.things {
		if x.epoch+2 <= w.all.epoch {
			list = append(list, x.thing)
		} else {
			left = append(left, x)
		}
	}
	w.things = left
	return list
}

// advance is S2 of a member, or S3.
func (w *walker) advance(member int) {
	m := w.all
	switch {
	case member == len(m.marks) && m.epoch == w.loaded:
		m.epoch++
		w.End(yes(1))
	case member == len(m.marks), m.marks[member] != 0 && m.marks[member] != w.loaded+1:
		w.End(yes(0))
	default:
		w.At++
	}
}

func newWalkers(start int64, threads [][]api.Op) []*walker {
	m := &shared{epoch: start, marks: make([]int64, len(threads))}
	var walkers []*walker
	for n, ops := range threads {
		w := &walker{all: m, me: n}
		w.Walk = plain.NewWalk(ops, &m.steps, w.still)
		walkers = append(walkers, w)
	}
	return walkers
}

func modelPlay(start int64, threads [][]api.Op, schedule []int, most int) (api.Trace, []*walker) {
	walkers := newWalkers(start, threads)
	return plain.Follow(walkers, schedule, most, walkers[0].all.state), walkers
}

func traceOf(walkers []*walker) api.Trace { return plain.TraceOf(walkers, walkers[0].all.state()) }

// meeting is a run all of whose schedules behind some first steps can be gone through.
type meeting struct {
	start   int64
	threads [][]api.Op
	ahead   []int
}

func (m meeting) each(see func(order []int, walkers []*walker)) {
	plain.SchedulesBehind(m.ahead, func() []*walker { return newWalkers(m.start, m.threads) }, see)
}

// meetings are of members who look, and of others who retire, move the epoch on and collect. No thing is retired twice.
func meetings() []meeting {
	visit := ops(enters, leaves)
	return []meeting{
		{0, [][]api.Op{ops(enters), ops(advances, advances)}, nil},
		{0, [][]api.Op{ops(advances, advances), ops(advances, advances)}, nil},
		{3, [][]api.Op{visit, ops(retires(7), advances, advances, collects)}, nil},
		{0, [][]api.Op{visit, ops(retires(7), advances, retires(8), advances, collects, collects)}, nil},
		{0, [][]api.Op{ops(enters, leaves, enters), ops(retires(7), advances, advances, collects)}, nil},
		{5, [][]api.Op{ops(enters, advances, leaves), ops(retires(7), advances, collects)}, nil},
		{0, [][]api.Op{ops(enters, retires(7), leaves, collects), ops(advances, advances)}, nil},
		{0, [][]api.Op{ops(retires(7), advances, collects), ops(advances, retires(8), collects)}, nil},
		{0, [][]api.Op{visit, ops(retires(7), collects), ops(advances, advances)}, plain.Turns(0, 1, 1, 1)},
		{0, [][]api.Op{visit, ops(retires(7), collects), ops(advances, advances)}, plain.Turns(2, 4, 0, 2)},
		{0, [][]api.Op{visit, visit, ops(retires(7), advances, advances, collects)}, plain.Turns(0, 1, 2, 2)},
		{0, [][]api.Op{visit, visit, ops(retires(7), advances, advances, collects)}, plain.Turns(2, 4, 1, 2, 0, 1)},
		{0, [][]api.Op{visit, ops(retires(7), advances), ops(retires(8), advances, collects)}, plain.Turns(0, 2, 1, 4, 2, 1)},
	}
}

// TestEverySchedule is P1 and P10.9 over every schedule of some threads.
func TestEverySchedule(t *testing.T) {
	outcomes, left := map[string]bool{}, 0
	for i, m := range meetings() {
		runs := 0
		m.each(func(order []int, walkers []*walker) {
			runs++
			want, got := traceOf(walkers), epoch.Play([]int64{m.start}, m.threads, order, 999)
			if want.Order = order; !plain.Same(got, want) {
				t.Fatalf("%d: %v\n%+v\n%+v", i, order, got, want)
			}
			outcomes[plain.Outcome(got)] = true
			left += checkSafe(t, order, walkers)
		})
		if runs < 15 || runs > 20000 {
			t.Error(i, "there are", runs)
		}
	}
	if len(outcomes) < 3*len(meetings()) || left == 0 {
		t.Error(len(outcomes), left)
	}
}

// TestEveryStep is P1 and P10.9 behind each step of many schedules: the epoch never goes back, and no further than one at a step.
func TestEveryStep(t *testing.T) {
	c, left := dice(4), 0
	for range 400 {
		start, threads, schedule := int64(c.between(0, 3)), c.threads(3, 16), c.schedule(0, 2, 50)
		now := start
		for most := 0; ; most++ {
			run := epoch.Play([]int64{start}, threads, schedule, most)
			want, walkers := modelPlay(start, threads, schedule, most)
			if !plain.Same(run, want) {
				t.Fatalf("%v %v %d\n%+v\n%+v", threads, schedule, most, run, want)
			}
			if run.State[0] != now && run.State[0] != now+1 {
				t.Fatalf("%v %v %d: the epoch was %d, and is %d", threads, schedule, most, now, run.State[0])
			}
			now = run.State[0]
			if !run.Stuck {
				left += checkSafe(t, run.Order, walkers)
				break
			}
			checkSafe(t, run.Order, walkers)
		}
	}
	if left == 0 {
		t.Error("nobody has had to leave")
	}
}

// TestSafe is P10.9 of greater runs.
func TestSafe(t *testing.T) {
	c, left := dice(5), 0
	for range 4000 {
		threads, schedule := c.threads(c.between(2, 5), 20), c.schedule(0, 4, 80)
		want, walkers := modelPlay(0, threads, schedule, 9999)
		got := epoch.Play(nil, threads, schedule, 9999)
		if !plain.Same(got, want) {
			t.Fatalf("%v %v\n%+v\n%+v", threads, schedule, got, want)
		}
		left += checkSafe(t, got.Order, walkers)
	}
	if left < 100 {
		t.Error(left)
	}
}

// stay is from the last step of an Enter up to that of the Leave behind it; where there is none yet, that is behind the run.
type stay struct{ from, to int }

func (w *walker) stays() []stay {
	var list []stay
	w.Each(func(o api.Op, a api.Answer, at plain.Span) {
		if a.OK && o.Kind == opEnter {
			list = append(list, stay{at.Last, w.all.steps})
		}
		if a.OK && o.Kind == opLeave {
			list[len(list)-1].to = at.First
		}
	})
	return list
}

// checkSafe holds the things that were collected against P10.9: each was retired by that member, is answered once, in order, and all who were inside when it was retired have left by then. It tells how many have.
func checkSafe(t *testing.T, order []int, walkers []*walker) int {
	t.Helper()
	left := 0
	var stays []stay
	for _, w := range walkers {
		stays = append(stays, w.stays()...)
	}
	for n, w := range walkers {
		var things []int64
		var since []int
		w.Each(func(o api.Op, a api.Answer, at plain.Span) {
			if o.Kind == opRetire {
				things, since = append(things, o.A), append(since, at.First)
			}
			got := len(a.List)
			if got > len(things) || !slices.Equal(a.List, things[:got]) {
				t.Fatalf("%v: member %d has got %v of %v", order, n, a.List, things)
			}
			for i, thing := range things[:got] {
				for _, x := range stays {
					if x.from > since[i] || x.to < since[i] {
						continue
					}
					if x.to > at.First {
						t.Fatalf("%v: member %d has got %d, and one who may have seen it is still inside", order, n, thing)
					}
					left++
				}
			}
			things, since = things[got:], since[got:]
		})
	}
	return left
}
