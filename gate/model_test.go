package gate_test

import (
	"math/big"
	"slices"

	"carillon/api"
	"carillon/plain"
)

// shared is what all threads share, by a plain reading of the chapter's words: the lists that have been laid, of which the last one lies there, and the numbers; and how many steps they have done.
type shared struct {
	lists   [][]int64
	numbers []int64
	steps   int
}

func newShared(start []int64) *shared {
	g := &shared{numbers: slices.Repeat([]int64{-1}, places)}
	members := copy(g.numbers, start)
	var list []int64
	for place := range members {
		list = append(list, int64(place))
	}
	g.lists = append(g.lists, list)
	return g
}

// load tells the list that lies there, and which one it is.
func (g *shared) load() ([]int64, int) {
	last := len(g.lists) - 1
	return g.lists[last], last
}

// swap lays a list, if that of which the number is handed in is the one that lies there.
func (g *shared) swap(old int, list []int64) bool {
	if old != len(g.lists)-1 {
		return false
	}
	g.lists = append(g.lists, list)
	return true
}

func (g *shared) state() []int64 {
	list, _ := g.load()
	return slices.Concat([]int64{int64(len(list))}, list, g.numbers)
}

// walker is a thread of that reading. On is the step at which it stands: it ends the operation, or says which step is the next one.
type walker struct {
	plain.Walk
	gate *shared
	on   func()
}

func (w *walker) Step() {
	w.Count()
	w.on()
}

// begin goes up to an operation's first step, or answers.
func (w *walker) begin(o api.Op) (api.Answer, bool) {
	g := w.gate
	if o.Kind >= opJoin && o.Kind <= opGet && (o.A < 0 || o.A > 63) {
		return outRange, true
	}
	switch o.Kind {
	case opJoin:
		w.join(o)
	case opLeave:
		w.leave(o)
	case opSet:
		w.on = func() { g.numbers[o.A] = o.B; w.End(yes(0)) }
	case opGet:
		w.on = func() { w.End(yes(g.numbers[o.A])) }
	case opList:
		w.on = func() {
			list, _ := g.load()
			w.End(api.Answer{OK: true, List: list})
		}
	case opLeast:
		w.least(o.A, func(n, place int64) { w.End(isLeast(n, place)) })
	case opMay:
		w.least(0, func(n, place int64) { w.End(mayOf(n, place, o)) })
	default:
		return nothing, true
	}
	return nothing, false
}

func (w *walker) join(o api.Op) {
	g := w.gate
	w.on = func() {
		list, old := g.load()
		if slices.Contains(list, o.A) {
			w.End(isThere)
			return
		}
		w.on = func() {
			g.numbers[o.A] = o.B
			w.on = func() {
				if !g.swap(old, append(slices.Clone(list), o.A)) {
					w.join(o)
					return
				}
				w.End(yes(0))
			}
		}
	}
}

func (w *walker) leave(o api.Op) {
	g := w.gate
	w.on = func() {
		list, old := g.load()
		at := slices.Index(list, o.A)
		if at < 0 {
			w.End(isNone)
			return
		}
		w.on = func() {
			if !g.swap(old, slices.Concat(list[:at], list[at+1:])) {
				w.leave(o)
				return
			}
			w.End(yes(0))
		}
	}
}

// least goes on with then in its last step.
func (w *walker) least(none int64, then func(n, place int64)) {
	w.on = func() {
		list, _ := w.gate.load()
		w.look(list, nil, none, then)
	}
}

// look loads the numbers of those of the list of whom none has been found yet.
func (w *walker) look(list, found []int64, none int64, then func(n, place int64)) {
	switch {
	case len(list) == 0:
		then(none, -1)
	case len(found) == len(list):
		n := slices.Min(found)
		then(n, list[slices.Index(found, n)])
	default:
		w.on = func() { w.look(list, append(found, w.gate.numbers[list[len(found)]]), none, then) }
	}
}

// mayOf reckons with numbers of any size.
func mayOf(n, place int64, o api.Op) api.Answer {
	size := o.B
	if size < 1 {
		size = 1
	}
	over := new(big.Int).Sub(big.NewInt(o.A), big.NewInt(size))
	if place == -1 || big.NewInt(n).Cmp(over) >= 0 {
		return yes(-1)
	}
	return api.Answer{N: place}
}

func newWalkers(start []int64, threads [][]api.Op) []*walker {
	g := newShared(start)
	var walkers []*walker
	for _, ops := range threads {
		w := &walker{gate: g}
		w.Walk = plain.NewWalk(ops, &g.steps, w.begin)
		walkers = append(walkers, w)
	}
	return walkers
}

func modelPlay(start []int64, threads [][]api.Op, schedule []int, most int) (api.Trace, []*walker) {
	walkers := newWalkers(start, threads)
	return plain.Follow(walkers, schedule, most, walkers[0].gate.state), walkers
}

func traceOf(walkers []*walker) api.Trace { return plain.TraceOf(walkers, walkers[0].gate.state()) }
