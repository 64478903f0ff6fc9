package barrier_test

import (
	"slices"

	"carillon/api"
	"carillon/plain"
)

// shared is what all threads share, by a plain reading of the chapter's words; how many steps they have done, and what there was ahead of each.
type shared struct {
	words []int64
	alert bool
	steps int
	was   []moment
}

// moment is what there was at some time.
type moment struct {
	words []int64
	alert bool
}

func newShared(words []int64) *shared {
	return &shared{words: slices.Clone(words[:min(len(words), 65)])}
}

func (g *shared) now() moment { return moment{slices.Clone(g.words), g.alert} }

func (g *shared) state() []int64 {
	if g.alert {
		return append(slices.Clone(g.words), 1)
	}
	return append(slices.Clone(g.words), 0)
}

// walker is a thread of that reading. On is the step at which it stands: it ends the operation, or says which step is the next one.
type walker struct {
	plain.Walk
	hall *shared
	on   func()
}

func (w *walker) Step() {
	w.Count()
	w.hall.was = append(w.hall.was, w.hall.now())
	w.on()
}

// begin goes up to an operation's first step, or answers.
func (w *walker) begin(o api.Op) (api.Answer, bool) {
	g := w.hall
	switch o.Kind {
	case opWait:
		return w.wait(o)
	case opLimit:
		if len(g.words) == 0 {
			return yes(-1), true
		}
		w.sources(nil, func(found []int64) { w.End(yes(slices.Min(found))) })
	case opAlert:
		w.on = func() { was := g.alert; g.alert = true; w.End(whether(!was)) }
	case opClear:
		w.on = func() { was := g.alert; g.alert = false; w.End(whether(was)) }
	case opAlerted:
		w.on = func() { w.End(whether(g.alert)) }
	case opStore, opAdd:
		if o.A < 0 || o.A >= int64(len(g.words)) {
			return nothing, true
		}
		w.change(o)
	default:
		return nothing, true
	}
	return nothing, false
}

func (w *walker) change(o api.Op) {
	g := w.hall
	w.on = func() {
		if o.Kind == opStore {
			g.words[o.A] = o.B
			w.End(yes(0))
			return
		}
		g.words[o.A] += o.B
		w.End(yes(g.words[o.A]))
	}
}

func (w *walker) wait(o api.Op) (api.Answer, bool) {
	switch {
	case o.C != 1 && o.C != 2 && o.C != 3:
		return isNoWay, true
	case len(w.hall.words) == 0:
		return isNone, true
	case o.C == 2:
		w.lean(o, 1, nil)
	default:
		w.try(o, 1)
	}
	return nothing, false
}

// triesOf is how many tries an operation has.
func triesOf(o api.Op) int {
	switch {
	case o.B < 1:
		return 1
	case o.B > 1024:
		return 1024
	}
	return int(o.B)
}

// ask goes on with then in the next step, if the alert is no.
func (w *walker) ask(then func()) {
	w.on = func() {
		if w.hall.alert {
			w.End(isClosed)
			return
		}
		then()
	}
}

// sources loads one behind the other, and goes on with then in the last step.
func (w *walker) sources(found []int64, then func(found []int64)) {
	w.on = func() {
		all := append(slices.Clone(found), w.hall.words[len(found)])
		if len(all) == len(w.hall.words) {
			then(all)
			return
		}
		w.sources(all, then)
	}
}

// try is the nth one of a wait by the ways that look at all sources.
func (w *walker) try(o api.Op, n int) {
	look := func() {
		w.sources(nil, func(found []int64) {
			switch least := slices.Min(found); {
			case least >= o.A:
				w.End(yes(least))
			case n == triesOf(o):
				w.End(isEmpty)
			default:
				w.try(o, n+1)
			}
		})
	}
	if o.C == 3 && n%8 != 1 {
		look()
		return
	}
	w.ask(look)
}

// lean is the nth try of a wait that has found these.
func (w *walker) lean(o api.Op, n int, found []int64) {
	w.ask(func() {
		w.on = func() {
			all := slices.Clone(found)
			if x := w.hall.words[len(found)]; x >= o.A {
				all = append(all, x)
			}
			switch {
			case len(all) == len(w.hall.words):
				w.End(yes(slices.Min(all)))
			case n == triesOf(o):
				w.End(isEmpty)
			default:
				w.lean(o, n+1, all)
			}
		}
	})
}

func newWalkers(words []int64, threads [][]api.Op) []*walker {
	g := newShared(words)
	var walkers []*walker
	for _, ops := range threads {
		w := &walker{hall: g}
		w.Walk = plain.NewWalk(ops, &g.steps, w.begin)
		walkers = append(walkers, w)
	}
	return walkers
}

func modelPlay(words []int64, threads [][]api.Op, schedule []int, most int) (api.Trace, []*walker) {
	walkers := newWalkers(words, threads)
	return plain.Follow(walkers, schedule, most, walkers[0].hall.state), walkers
}

func traceOf(walkers []*walker) api.Trace { return plain.TraceOf(walkers, walkers[0].hall.state()) }
