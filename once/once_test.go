package once_test

import (
	"math"
	"slices"
	"testing"

	"carillon/api"
	"carillon/once"
	"carillon/turn"
)

const (
	least    = math.MinInt64
	greatest = math.MaxInt64
	crowd    = 8
)

// places is what a Once's State tells.
type places struct{ state, value, count int64 }

func at(o *once.Once) places {
	state, value, count := o.State()
	return places{state, value, count}
}

// watcher logs ahead of each step what has been done up to there; at some of them something comes between behind the look.
type watcher struct {
	once *once.Once
	log  []places
	at   map[int]func()
}

func (w *watcher) Step() {
	w.log = append(w.log, at(w.once))
	if f := w.at[len(w.log)]; f != nil {
		f()
	}
}

type maker = func(s turn.Stepper) (int64, bool)

func makes(v int64) maker  { return func(turn.Stepper) (int64, bool) { return v, true } }
func giveUp(v int64) maker { return func(turn.Stepper) (int64, bool) { return v, false } }

// fresh, claimed and holds make a Once in each of its states.
func fresh() *once.Once { return once.New() }

// claimed is one that somebody makes who never goes on: that one was ended ahead of its second step.
func claimed() *once.Once {
	o := once.New()
	turn.Alone(turn.NewCounter(1), func(s turn.Stepper) { o.Set(s, -1) })
	return o
}

func holds(v int64) *once.Once {
	o := once.New()
	o.Set(nil, v)
	return o
}

// told is what a call answers, of whichever kind.
type told struct {
	n   int64
	ok  bool
	err api.Errno
}

type call = func(o *once.Once, s turn.Stepper) told

func get(o *once.Once, s turn.Stepper) told {
	n, ok := o.Get(s)
	return told{n: n, ok: ok}
}

func set(v int64) call {
	return func(o *once.Once, s turn.Stepper) told {
		n, ok := o.Set(s, v)
		return told{n: n, ok: ok}
	}
}

func making(tries int, m maker) call {
	return func(o *once.Once, s turn.Stepper) told {
		n, err := o.Make(s, tries, m)
		return told{n: n, err: err}
	}
}

// TestStepsInOrder: each call's steps, by what stands in the three places ahead of each of them, and behind the last.
func TestStepsInOrder(t *testing.T) {
	none, mine := places{}, places{state: 1}
	for _, x := range []struct {
		name   string
		start  func() *once.Once
		call   call
		answer told
		log    []places
		after  places
	}{
		{"Get of nothing", fresh, get, told{}, []places{none}, none},
		{"Get of a claimed one", claimed, get, told{}, []places{mine}, mine},
		{"Get of a made one", func() *once.Once { return holds(7) }, get, told{n: 7, ok: true}, []places{{2, 7, 0}, {2, 7, 0}}, places{2, 7, 0}},
		{"Get of a made 0", func() *once.Once { return holds(0) }, get, told{ok: true}, []places{{2, 0, 0}, {2, 0, 0}}, places{2, 0, 0}},
		{"Set of nothing", fresh, set(7), told{n: 7, ok: true}, []places{none, mine, {1, 7, 0}}, places{2, 7, 0}},
		{"Set of 0", fresh, set(0), told{ok: true}, []places{none, mine, mine}, places{2, 0, 0}},
		{"Set of a claimed one", claimed, set(7), told{}, []places{mine, mine}, mine},
		{"Set of a made one", func() *once.Once { return holds(5) }, set(7), told{n: 5}, []places{{2, 5, 0}, {2, 5, 0}, {2, 5, 0}}, places{2, 5, 0}},
		{"Set of the same again", func() *once.Once { return holds(7) }, set(7), told{n: 7}, []places{{2, 7, 0}, {2, 7, 0}, {2, 7, 0}}, places{2, 7, 0}},
		{"Make of nothing", fresh, making(1, makes(7)), told{n: 7}, []places{none, none, mine, {1, 0, 1}, {1, 7, 1}}, places{2, 7, 1}},
		{"Make of 0", fresh, making(9, makes(0)), told{}, []places{none, none, mine, {1, 0, 1}, {1, 0, 1}}, places{2, 0, 1}},
		{"Make that gives up", fresh, making(9, giveUp(7)), told{err: api.ErrNone}, []places{none, none, mine, {1, 0, 1}}, places{0, 0, 1}},
		{"Make of a claimed one", claimed, making(1, makes(7)), told{err: api.ErrEmpty}, []places{mine, mine}, mine},
		{"Make of a claimed one, twice", claimed, making(2, giveUp(7)), told{err: api.ErrEmpty}, []places{mine, mine, mine, mine}, mine},
		{"Make of a made one", func() *once.Once { return holds(5) }, making(3, makes(7)), told{n: 5}, []places{{2, 5, 0}, {2, 5, 0}}, places{2, 5, 0}},
		{"Make that would give up, of a made one", func() *once.Once { return holds(5) }, making(3, giveUp(7)), told{n: 5}, []places{{2, 5, 0}, {2, 5, 0}}, places{2, 5, 0}},
		{"Make without a maker", fresh, making(3, nil), told{err: api.ErrRange}, nil, none},
		{"Make without a maker, of a made one", func() *once.Once { return holds(5) }, making(3, nil), told{err: api.ErrRange}, nil, places{2, 5, 0}},
	} {
		o := x.start()
		w := &watcher{once: o}
		if got := x.call(o, w); got != x.answer || !slices.Equal(w.log, x.log) || at(o) != x.after {
			t.Error(x.name, got, w.log, at(o))
		}
		o = x.start()
		if got := x.call(o, nil); got != x.answer || at(o) != x.after {
			t.Error(x.name, "without a Stepper", got, at(o))
		}
	}
}

// TestBetweenTheSteps: what another one does right ahead of a step is what that step finds.
func TestBetweenTheSteps(t *testing.T) {
	for _, x := range []struct {
		name   string
		start  func() *once.Once
		call   call
		ahead  int
		other  call
		answer told
		steps  int
		after  places
	}{
		{"Get, set ahead of S1", fresh, get, 1, set(9), told{n: 9, ok: true}, 2, places{2, 9, 0}},
		{"Set, set ahead of S1", fresh, set(7), 1, set(9), told{n: 9}, 3, places{2, 9, 0}},
		{"Set, set ahead of S2", fresh, set(7), 2, set(9), told{n: 7, ok: true}, 3, places{2, 7, 0}},
		{"Set, made ahead of S1", fresh, set(7), 1, making(1, makes(9)), told{n: 9}, 3, places{2, 9, 1}},
		{"Set, given up ahead of S1", fresh, set(7), 1, making(1, giveUp(9)), told{n: 7, ok: true}, 3, places{2, 7, 1}},
		{"Make, set ahead of S1", fresh, making(1, makes(7)), 1, set(9), told{n: 9}, 2, places{2, 9, 0}},
		{"Make, set ahead of S3, one try", fresh, making(1, makes(7)), 2, set(9), told{err: api.ErrEmpty}, 2, places{2, 9, 0}},
		{"Make, set ahead of S3, two tries", fresh, making(2, makes(7)), 2, set(9), told{n: 9}, 4, places{2, 9, 0}},
		{"Make, given up ahead of S3", fresh, making(1, makes(7)), 2, making(1, giveUp(9)), told{n: 7}, 5, places{2, 7, 2}},
		{"Make, set ahead of S4", fresh, making(1, makes(7)), 3, set(9), told{n: 7}, 5, places{2, 7, 1}},
		{"Make, set ahead of S7", fresh, making(1, giveUp(7)), 4, set(9), told{err: api.ErrNone}, 4, places{0, 0, 1}},
	} {
		o := x.start()
		w := &watcher{once: o, at: map[int]func(){x.ahead: func() { x.other(o, nil) }}}
		if got := x.call(o, w); got != x.answer || len(w.log) != x.steps || at(o) != x.after {
			t.Error(x.name, got, w.log, at(o))
		}
	}
}

// TestTries: a call on one that somebody else makes does two steps a try.
func TestTries(t *testing.T) {
	for tries, want := range map[int]int{math.MinInt: 1, -1: 1, 0: 1, 1: 1, 2: 2, 7: 7, api.MostTries - 1: api.MostTries - 1, api.MostTries: api.MostTries, api.MostTries + 1: api.MostTries, math.MaxInt: api.MostTries} {
		o, c := claimed(), turn.NewCounter(api.MostSteps)
		called := 0
		v, err := o.Make(c, tries, func(turn.Stepper) (int64, bool) { called++; return 7, true })
		if v != 0 || err != api.ErrEmpty || c.Steps() != 2*want || called != 0 || at(o) != (places{state: 1}) {
			t.Error(tries, v, err, c.Steps(), called, at(o))
		}
	}
	o := claimed()
	w := &watcher{once: o, at: map[int]func(){}}
	w.at[2*api.MostTries-1] = func() { t.Error("a try too many") }
	if _, err := o.Make(w, api.MostTries-1, makes(7)); err != api.ErrEmpty {
		t.Error(err)
	}
}

// TestMaker: it is called once by a call that has claimed, behind the count and ahead of the value, with the Stepper that the call got, and its steps stand there.
func TestMaker(t *testing.T) {
	for _, x := range []struct {
		ok     bool
		answer told
		log    []places
		after  places
	}{
		{true, told{n: 7}, []places{{}, {}, {1, 0, 0}, {1, 0, 1}, {1, 0, 1}, {1, 0, 1}, {1, 7, 1}}, places{2, 7, 1}},
		{false, told{err: api.ErrNone}, []places{{}, {}, {1, 0, 0}, {1, 0, 1}, {1, 0, 1}, {1, 0, 1}}, places{0, 0, 1}},
	} {
		o := once.New()
		w := &watcher{once: o}
		called := 0
		m := func(s turn.Stepper) (int64, bool) {
			if called++; s != turn.Stepper(w) || len(w.log) != 3 || at(o) != (places{1, 0, 1}) {
				t.Error("the maker finds", s, w.log, at(o))
			}
			s.Step()
			s.Step()
			return 7, x.ok
		}
		if got := making(5, m)(o, w); got != x.answer || called != 1 || !slices.Equal(w.log, x.log) || at(o) != x.after {
			t.Error(got, called, w.log, at(o))
		}
	}
	holds(5).Make(nil, 3, func(turn.Stepper) (int64, bool) { t.Error("called of a made one"); return 0, false })
	fresh().Make(nil, 3, func(s turn.Stepper) (int64, bool) {
		if s != nil {
			t.Error("of a nil Stepper", s)
		}
		return 0, false
	})
}

// TestGivenUp: a maker that gives up is the same as none, but for the count.
func TestGivenUp(t *testing.T) {
	o := once.New()
	for i := range int64(5) {
		if got := making(3, giveUp(40+i))(o, nil); got != (told{err: api.ErrNone}) || at(o) != (places{0, 0, i + 1}) {
			t.Error(i, got, at(o))
		}
		if got := get(o, nil); got != (told{}) {
			t.Error(i, got)
		}
	}
	for i, x := range []struct {
		call   call
		answer told
	}{
		{making(1, makes(least)), told{n: least}},
		{set(greatest), told{n: least}},
		{making(1, giveUp(3)), told{n: least}},
		{making(1, makes(4)), told{n: least}},
		{get, told{n: least, ok: true}},
	} {
		if got := x.call(o, nil); got != x.answer || at(o) != (places{2, least, 6}) {
			t.Error(i, got, at(o))
		}
	}
	o = once.New()
	making(1, giveUp(3))(o, nil)
	if got := set(greatest)(o, nil); got != (told{n: greatest, ok: true}) || at(o) != (places{2, greatest, 1}) {
		t.Error(got, at(o))
	}
}

// TestEndedWithin: a thread that is ended at a step leaves the three places as they stand there; nothing of the call recovers it.
func TestEndedWithin(t *testing.T) {
	twoSteps := func(s turn.Stepper) (int64, bool) { s.Step(); s.Step(); return 7, true }
	for _, x := range []struct {
		name  string
		call  call
		after []places
	}{
		{"Set", set(7), []places{{}, {1, 0, 0}, {1, 7, 0}, {2, 7, 0}}},
		{"Make", making(3, twoSteps), []places{{}, {}, {1, 0, 0}, {1, 0, 1}, {1, 0, 1}, {1, 0, 1}, {1, 7, 1}, {2, 7, 1}}},
		{"Make that gives up", making(3, giveUp(7)), []places{{}, {}, {1, 0, 0}, {1, 0, 1}, {0, 0, 1}}},
	} {
		for most, after := range x.after {
			o := once.New()
			back := turn.Alone(turn.NewCounter(most), func(s turn.Stepper) { x.call(o, s) })
			if back != (most == len(x.after)-1) || at(o) != after {
				t.Error(x.name, most, back, at(o))
			}
		}
	}
}

func TestZeroAndNilOnce(t *testing.T) {
	var zero once.Once
	if at(&zero) != (places{}) || at(once.New()) != (places{}) {
		t.Error("at first", at(&zero), at(once.New()))
	}
	if got := making(1, makes(3))(&zero, nil); got != (told{n: 3}) || at(&zero) != (places{2, 3, 1}) || get(&zero, nil) != (told{n: 3, ok: true}) {
		t.Error("the zero Once", got, at(&zero))
	}
	if once.New() == once.New() {
		t.Error("New answers one twice")
	}
	var none *once.Once
	w := &watcher{}
	for _, s := range []turn.Stepper{nil, w} {
		for i, x := range []struct {
			call   call
			answer told
		}{
			{get, told{}},
			{set(7), told{}},
			{making(3, func(turn.Stepper) (int64, bool) { t.Error("called of nil"); return 7, true }), told{err: api.ErrNone}},
			{making(3, nil), told{err: api.ErrNone}},
			{get, told{}},
		} {
			if got := x.call(none, s); got != x.answer || at(none) != (places{}) {
				t.Error("nil", i, got, at(none))
			}
		}
	}
	if len(w.log) != 0 {
		t.Error("steps of nil", len(w.log))
	}
}

// together lets so many goroutines go at one time.
func together(do func(n int)) {
	threads := make([]func(s turn.Stepper), crowd)
	for n := range threads {
		threads[n] = func(turn.Stepper) { do(n) }
	}
	turn.Go(threads)
}

// TestOnceFree: of all who set and make at one time one alone is the first, and whatever is told as there is its number.
func TestOnceFree(t *testing.T) {
	for round := range 2000 {
		o := once.New()
		var seen [crowd][]int64
		var mine, called, gaveUp [crowd]int
		together(func(n int) {
			there := func(v int64, ok bool) {
				if ok {
					seen[n] = append(seen[n], v)
				}
			}
			m := func(turn.Stepper) (int64, bool) { called[n]++; return int64(n) + 1, n%4 != 3 }
			there(o.Get(nil))
			if n%2 == 0 {
				v, first := o.Set(nil, int64(n)+1)
				if first {
					mine[n]++
				}
				there(v, v != 0)
			}
			v, err := o.Make(nil, 3, m)
			there(v, err == api.OK)
			if err == api.ErrNone {
				gaveUp[n]++
			}
			if err == api.OK && v == int64(n)+1 && called[n] == 1 {
				mine[n]++
			}
			there(o.Get(nil))
		})
		o.Set(nil, 99)
		end, calls, firsts := at(o), 0, 0
		for n := range crowd {
			calls += called[n]
			firsts += mine[n]
			if slices.ContainsFunc(seen[n], func(v int64) bool { return v != end.value }) || called[n] > 1 || gaveUp[n] != called[n]*btoi(n%4 == 3) {
				t.Fatal(round, n, seen[n], end, called, gaveUp)
			}
		}
		if end.state != 2 || end.count != int64(calls) || firsts != btoi(end.value != 99) {
			t.Fatal(round, end, calls, firsts)
		}
	}
}

func btoi(yes bool) int {
	if yes {
		return 1
	}
	return 0
}
