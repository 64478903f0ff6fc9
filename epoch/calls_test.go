package epoch_test

import (
	"fmt"
	"math"
	"slices"
	"testing"

	"carillon/api"
	"carillon/epoch"
	"carillon/turn"
)

const crowd = 8

// told is all that a call may answer.
type told struct {
	n    int64
	yes  bool
	list []int64
	err  api.Errno
}

func same(a, b told) bool {
	return a.n == b.n && a.yes == b.yes && a.err == b.err && slices.Equal(a.list, b.list)
}

var (
	done    = told{}
	moved   = told{yes: true}
	none    = told{}
	foreign = told{err: api.ErrRange}
	there   = told{err: api.ErrThere}
	away    = told{err: api.ErrNone}
)

func number(n int64) told      { return told{n: n} }
func things(all ...int64) told { return told{list: all} }

type call = func(d *epoch.Domain, s turn.Stepper) told

func enter(m int) call {
	return func(d *epoch.Domain, s turn.Stepper) told {
		e, err := d.Enter(s, m)
		return told{n: e, err: err}
	}
}

func leave(m int) call {
	return func(d *epoch.Domain, s turn.Stepper) told { return told{err: d.Leave(s, m)} }
}

func retire(m int, thing int64) call {
	return func(d *epoch.Domain, s turn.Stepper) told {
		e, err := d.Retire(s, m, thing)
		return told{n: e, err: err}
	}
}

func advance(m int) call {
	return func(d *epoch.Domain, s turn.Stepper) told {
		yes, err := d.Advance(s, m)
		return told{yes: yes, err: err}
	}
}

func collect(m int) call {
	return func(d *epoch.Domain, s turn.Stepper) told {
		list, err := d.Collect(s, m)
		return told{list: list, err: err}
	}
}

// all does one behind the other.
func all(calls ...call) call {
	return func(d *epoch.Domain, s turn.Stepper) told {
		for _, do := range calls {
			do(d, s)
		}
		return none
	}
}

// half does so many of a call's steps, and is ended there.
func half(do call, steps int) call {
	return func(d *epoch.Domain, _ turn.Stepper) told {
		turn.Alone(turn.NewCounter(steps), func(s turn.Stepper) { do(d, s) })
		return none
	}
}

// of are the calls of a member.
func of(m int) map[string]call {
	return map[string]call{"Enter": enter(m), "Leave": leave(m), "Retire": retire(m, 77), "Advance": advance(m), "Collect": collect(m)}
}

// look is all that is to be seen without a step: the epoch, the marks, and what waits.
func look(d *epoch.Domain) string {
	var waiting [][]int64
	for m := range d.Members() {
		waiting = append(waiting, d.Waiting(m))
	}
	return fmt.Sprint(d.Epoch(), d.Marks(), waiting)
}

// state is what look tells where so many members have nothing that waits.
func state(now int64, marks ...int64) string {
	return fmt.Sprint(now, marks, make([][]int64, len(marks)))
}

func members(n int) *epoch.Domain {
	d, _ := epoch.New(n)
	return d
}

// rise moves the epoch on, where nobody holds it.
func rise(d *epoch.Domain, now int64) {
	for range now - d.Epoch() {
		d.Advance(nil, 0)
	}
}

// at is a domain of that epoch, with a member for each mark; a mark is at most 1 more than the epoch. Who enters has loaded the epoch before any mark stands, so that none holds it.
func at(now int64, marks ...int64) *epoch.Domain {
	d := members(len(marks))
	var order []int
	for m, mark := range marks {
		if mark > 0 {
			order = append(order, m)
		}
	}
	slices.SortFunc(order, func(a, b int) int { return int(marks[a] - marks[b]) })
	var come func(d *epoch.Domain, s turn.Stepper) told
	come = func(*epoch.Domain, turn.Stepper) told {
		if len(order) == 0 {
			rise(d, now)
			return none
		}
		m := order[0]
		order = order[1:]
		rise(d, marks[m]-1)
		d.Enter(&watcher{d: d, at: map[int]call{2: come}}, m)
		return none
	}
	come(d, nil)
	return d
}

// watcher logs ahead of each step what is to be seen by then; at some of them something comes between behind the look.
type watcher struct {
	d   *epoch.Domain
	log []string
	at  map[int]call
}

func (w *watcher) Step() {
	w.log = append(w.log, look(w.d))
	if do := w.at[len(w.log)]; do != nil {
		do(w.d, nil)
	}
}

// check holds a call's answer, its steps, when it is alone, and what it leaves against these.
func check(t *testing.T, d *epoch.Domain, name string, do call, want told, steps int, after string) {
	t.Helper()
	before, counter := look(d), turn.NewCounter(api.MostSteps)
	if got := do(d, counter); !same(got, want) || counter.Steps() != steps || look(d) != after {
		t.Errorf("%s of %s: %+v in %d steps, leaves %s; want %+v in %d, %s", name, before, got, counter.Steps(), look(d), want, steps, after)
	}
}

// between is a call ahead of some of whose steps others come between.
type between struct {
	name   string
	from   *epoch.Domain
	call   call
	others map[int]call
	want   told
	steps  int
	after  string
}

func (x between) check(t *testing.T) {
	t.Helper()
	w := &watcher{d: x.from, at: x.others}
	if got := x.call(x.from, w); !same(got, x.want) || len(w.log) != x.steps || look(x.from) != x.after {
		t.Errorf("%s: %+v in %d steps, leaves %s; want %+v in %d, %s", x.name, got, len(w.log), look(x.from), x.want, x.steps, x.after)
	}
}

// ordered is a call, and what is to be seen ahead of each of its steps, and at the end.
type ordered struct {
	name   string
	from   func() *epoch.Domain
	call   call
	want   told
	states []string
}

// check looks ahead of each step, and behind the last: Step is called right ahead of it, and without a Stepper the answers are the same. A thread that is ended at a step has done those ahead of it, and nothing that lies behind.
func (x ordered) check(t *testing.T) {
	t.Helper()
	d := x.from()
	w := &watcher{d: d}
	if got := x.call(d, w); !same(got, x.want) || !slices.Equal(append(w.log, look(d)), x.states) {
		t.Error(x.name, got, w.log, look(d))
	}
	d = x.from()
	if got := x.call(d, nil); !same(got, x.want) || look(d) != x.states[len(x.states)-1] {
		t.Error(x.name, "without a Stepper", got, look(d))
	}
	for most, after := range x.states[:len(x.states)-1] {
		d = x.from()
		if turn.Alone(turn.NewCounter(most), func(s turn.Stepper) { x.call(d, s) }) || look(d) != after {
			t.Error(x.name, "ended behind", most, look(d))
		}
	}
}

// TestNew is P10.1: sizes, and what a new domain is like; two of them share nothing.
func TestNew(t *testing.T) {
	for _, n := range []int{math.MinInt, -1 << 32, -2, -1, 65, 66, 1 << 16, 1 << 32, 1<<32 + 1, math.MaxInt} {
		if d, err := epoch.New(n); d != nil || err != api.ErrRange {
			t.Error(n, d, err)
		}
	}
	for n := range api.MostThreads + 1 {
		d, err := epoch.New(n)
		other, _ := epoch.New(n)
		if err != api.OK || d.Members() != n || look(d) != state(0, make([]int64, n)...) {
			t.Error(n, err, look(d))
		}
		for m := range n {
			check(t, d, "Leave", leave(m), away, 0, look(d))
			check(t, d, "Collect", collect(m), none, 1, look(d))
		}
		for m := range n {
			all(retire(m, 1), enter(m), advance(m))(d, nil)
		}
		if n > 0 && d.Epoch() != 1 || look(other) != state(0, make([]int64, n)...) {
			t.Error(n, look(d), look(other))
		}
	}
}

// TestRange is P10.1 and P10.10: a member that there is not, also where there is none at all; a Step would end the thread.
func TestRange(t *testing.T) {
	domains := map[string]*epoch.Domain{"nil": nil, "zero": {}, "none": members(0), "one": members(1), "three": at(4, 3, 0, 5), "all": members(64)}
	domains["three"].Retire(nil, 0, 5)
	for name, d := range domains {
		before, n := look(d), d.Members()
		for _, m := range []int{math.MinInt, -1 << 32, -n - 1, -n, -1, n, n + 1, 64, 65, 1 << 32, math.MaxInt - 1, math.MaxInt} {
			if 0 <= m && m < n {
				continue
			}
			for what, do := range of(m) {
				check(t, d, fmt.Sprint(what, " by ", m, " of ", name), do, foreign, 0, before)
				if back := turn.Alone(turn.NewCounter(0), func(s turn.Stepper) { do(d, s) }); !back || !same(do(d, nil), foreign) {
					t.Error(name, what, m, "has done a step, or has panicked")
				}
			}
			if got := d.Waiting(m); len(got) != 0 {
				t.Error(name, m, got)
			}
		}
	}
}

// TestNone is P10.10: a nil and the zero domain have no members.
func TestNone(t *testing.T) {
	for _, d := range []*epoch.Domain{nil, {}} {
		if d.Members() != 0 || d.Epoch() != 0 || len(d.Marks()) != 0 || len(d.Waiting(0)) != 0 || look(d) != look(members(0)) {
			t.Error(look(d))
		}
	}
}

// TestExample is the chapter's calls of two members.
func TestExample(t *testing.T) {
	d := members(2)
	check(t, d, "Enter(0)", enter(0), number(0), 2, "0 [1 0] [[] []]")
	check(t, d, "Retire(1, 77)", retire(1, 77), number(0), 1, "0 [1 0] [[] [77]]")
	check(t, d, "Advance(1)", advance(1), moved, 4, "1 [1 0] [[] [77]]")
	check(t, d, "Advance(1)", advance(1), none, 2, "1 [1 0] [[] [77]]")
	check(t, d, "Collect(1)", collect(1), none, 1, "1 [1 0] [[] [77]]")
	check(t, d, "Leave(0)", leave(0), done, 1, "1 [0 0] [[] [77]]")
	check(t, d, "Advance(1)", advance(1), moved, 4, "2 [0 0] [[] [77]]")
	check(t, d, "Collect(1)", collect(1), things(77), 1, "2 [0 0] [[] []]")
	check(t, d, "Collect(1)", collect(1), none, 1, "2 [0 0] [[] []]")
	check(t, d, "Enter(0)", enter(0), number(2), 2, "2 [3 0] [[] []]")
	check(t, d, "Enter(0)", enter(0), there, 0, "2 [3 0] [[] []]")
	check(t, d, "Leave(1)", leave(1), away, 0, "2 [3 0] [[] []]")
}

// TestOrder: what is to be seen ahead of each step.
func TestOrder(t *testing.T) {
	out := func() *epoch.Domain { return at(3, 0, 4, 0) }
	in := func() *epoch.Domain { return at(3, 4, 4, 3) }
	filled := func() *epoch.Domain {
		d := members(2)
		all(retire(1, 5), advance(0), retire(1, 6), retire(0, 9), advance(0))(d, nil)
		return d
	}
	outside, inside, full := look(out()), look(in()), look(filled())
	for _, x := range []ordered{
		{"Enter", out, enter(2), number(3), []string{outside, outside, "3 [0 4 4] [[] [] []]"}},
		{"Enter inside", in, enter(2), there, []string{inside}},
		{"Leave", in, leave(2), done, []string{inside, "3 [4 4 0] [[] [] []]"}},
		{"Leave outside", out, leave(2), away, []string{outside}},
		{"Retire", out, retire(0, -5), number(3), []string{outside, "3 [0 4 0] [[-5] [] []]"}},
		{"Retire inside", in, retire(2, 0), number(3), []string{inside, "3 [4 4 3] [[] [] [0]]"}},
		{"Advance", out, advance(0), moved, append(slices.Repeat([]string{outside}, 5), "4 [0 4 0] [[] [] []]")},
		{"Advance that is held", in, advance(0), none, slices.Repeat([]string{inside}, 5)},
		{"Advance that holds itself", in, advance(2), none, slices.Repeat([]string{inside}, 5)},
		{"Collect", filled, collect(1), things(5), []string{full, "2 [0 0] [[9] [6]]"}},
		{"Collect of none", filled, collect(0), none, []string{full, full}},
	} {
		x.check(t)
	}
}

// TestBetween: what another one does right ahead of a step is what that step finds.
func TestBetween(t *testing.T) {
	retired := func() *epoch.Domain {
		d := members(2)
		retire(0, 5)(d, nil)
		return d
	}
	for _, x := range []between{
		{"Enter, moved ahead of S1", members(2), enter(0), map[int]call{1: advance(1)}, number(1), 2, "1 [2 0] [[] []]"},
		{"Enter, moved ahead of S2", members(2), enter(0), map[int]call{2: advance(1)}, number(0), 2, "1 [1 0] [[] []]"},
		{"Enter, moved thrice ahead of S2", members(2), enter(0), map[int]call{2: all(advance(1), advance(1), advance(1))}, number(0), 2, "3 [1 0] [[] []]"},
		{"Retire, moved ahead of S1", members(2), retire(0, 5), map[int]call{1: advance(1)}, number(1), 1, "1 [0 0] [[5] []]"},
		{"Leave, held ahead of S1", at(1, 1, 0), leave(0), map[int]call{1: advance(1)}, done, 1, "1 [0 0] [[] []]"},
		{"Advance, moved ahead of S1", members(2), advance(0), map[int]call{1: advance(1)}, moved, 4, "2 [0 0] [[] []]"},
		{"Advance, moved ahead of S2", members(2), advance(0), map[int]call{2: advance(1)}, none, 4, "1 [0 0] [[] []]"},
		{"Advance, moved ahead of S3", members(2), advance(0), map[int]call{4: advance(1)}, none, 4, "1 [0 0] [[] []]"},
		{"Advance, entered ahead of S1", at(2, 0, 0), advance(0), map[int]call{1: enter(1)}, moved, 4, "3 [0 3] [[] []]"},
		{"Advance, entered ahead of the own S2", at(2, 0, 0), advance(0), map[int]call{2: enter(1)}, moved, 4, "3 [0 3] [[] []]"},
		{"Advance, moved and entered ahead of S2", at(2, 0, 0), advance(0), map[int]call{2: all(advance(1), enter(0))}, none, 2, "3 [4 0] [[] []]"},
		{"Advance, moved and entered ahead of the second S2", at(2, 0, 0), advance(0), map[int]call{3: all(advance(1), enter(1))}, none, 3, "3 [0 4] [[] []]"},
		{"Advance, moved and entered behind the own S2", at(2, 0, 0), advance(0), map[int]call{3: all(advance(1), enter(0))}, none, 4, "3 [4 0] [[] []]"},
		{"Advance, left ahead of its S2", at(2, 0, 2), advance(0), map[int]call{3: leave(1)}, moved, 4, "3 [0 0] [[] []]"},
		{"Advance, left behind its S2", at(2, 2, 0), advance(0), map[int]call{3: leave(0)}, none, 2, "2 [2 0] [[] []]"},
		{"Advance, left and entered anew ahead of its S2", at(2, 0, 2), advance(0), map[int]call{3: all(leave(1), enter(1))}, moved, 4, "3 [0 3] [[] []]"},
		{"Advance, half entered ahead of its S2", at(2, 0, 0), advance(0), map[int]call{3: half(enter(1), 1)}, moved, 4, "3 [0 0] [[] []]"},
		{"Advance, entered and moved behind its S2", at(2, 0, 0), advance(0), map[int]call{4: all(enter(1), advance(1))}, none, 4, "3 [0 3] [[] []]"},
		{"Collect, moved ahead of S1", retired(), collect(0), map[int]call{1: all(advance(1), advance(1))}, things(5), 1, "2 [0 0] [[] []]"},
		{"Collect, moved but once ahead of S1", retired(), collect(0), map[int]call{1: advance(1)}, none, 1, "1 [0 0] [[5] []]"},
	} {
		x.check(t)
	}
}

// TestEnded: a member is inside behind the last step of its Enter, and outside already ahead of that of its Leave.
func TestEnded(t *testing.T) {
	for steps := range 2 {
		d := at(2, 0, 0)
		half(enter(0), steps)(d, nil)
		check(t, d, "Leave behind an Enter that was ended", leave(0), away, 0, "2 [0 0] [[] []]")
		check(t, d, "Enter behind one that was ended", enter(0), number(2), 2, "2 [3 0] [[] []]")
	}
	d := at(2, 2, 0)
	half(leave(0), 0)(d, nil)
	check(t, d, "Leave behind one that was ended", leave(0), away, 0, "2 [2 0] [[] []]")
	check(t, d, "Advance", advance(1), none, 2, "2 [2 0] [[] []]")
	check(t, d, "Enter behind a Leave that was ended", enter(0), number(2), 2, "2 [3 0] [[] []]")
	check(t, d, "Leave", leave(0), done, 1, "2 [0 0] [[] []]")
	half(retire(0, 5), 0)(d, nil)
	check(t, d, "Retire behind one that was ended", retire(0, 6), number(2), 1, "2 [0 0] [[6] []]")
	rise(d, 4)
	half(collect(0), 0)(d, nil)
	check(t, d, "Collect behind one that was ended", collect(0), things(6), 1, "4 [0 0] [[] []]")
}

// together lets so many goroutines go at one time.
func together(do func(n int)) {
	threads := make([]func(s turn.Stepper), crowd)
	for n := range threads {
		threads[n] = func(turn.Stepper) { do(n) }
	}
	turn.Go(threads)
}
