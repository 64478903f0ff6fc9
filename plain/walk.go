package plain

import (
	"slices"

	"carillon/api"
)

// Span is where an operation's first and last step stand in the run; of an operation without steps both are -1.
type Span struct{ First, Last int }

// Walk is what each thread of a plain reading has, for its own type to embed: its operations, what those that have ended have answered, and the number of the step at which the next one stands.
type Walk struct {
	At      int
	ops     []api.Op
	answers []api.Answer
	spans   []Span
	now     Span
	steps   *int
	still   func(o api.Op) (api.Answer, bool)
}

// NewWalk makes a thread of these operations. Steps counts those of the whole run, for all threads; still tells which operations have no step, and what they answer.
func NewWalk(ops []api.Op, steps *int, still func(o api.Op) (api.Answer, bool)) Walk {
	w := Walk{At: 1, ops: ops, now: Span{-1, -1}, steps: steps, still: still}
	w.passStill()
	return w
}

// Outside tells of the operations whose kind is not from 1 to most: no step, and the zero Answer.
func Outside(most int) func(o api.Op) (api.Answer, bool) {
	return func(o api.Op) (api.Answer, bool) { return api.Answer{}, o.Kind < 1 || o.Kind > most }
}

// Ended is Thread's.
func (w *Walk) Ended() bool { return len(w.answers) == len(w.ops) }

// Told is what the operations that have ended have answered.
func (w *Walk) Told() []api.Answer { return w.answers }

// Op is the operation that goes on.
func (w *Walk) Op() api.Op { return w.ops[len(w.answers)] }

// Count counts a step, as each one begins.
func (w *Walk) Count() {
	if w.now.First < 0 {
		w.now.First = *w.steps
	}
	w.now.Last = *w.steps
	*w.steps++
}

// End ends the operation, and those behind it that have no step.
func (w *Walk) End(a api.Answer) {
	w.end(a)
	w.passStill()
}

func (w *Walk) end(a api.Answer) {
	w.answers, w.spans = append(w.answers, a), append(w.spans, w.now)
	w.At, w.now = 1, Span{-1, -1}
}

func (w *Walk) passStill() {
	for !w.Ended() {
		a, still := w.still(w.Op())
		if !still {
			return
		}
		w.end(a)
	}
}

// Each hands on the operations that have ended.
func (w *Walk) Each(see func(o api.Op, a api.Answer, at Span)) {
	for i, a := range w.answers {
		see(w.ops[i], a, w.spans[i])
	}
}

// DoneOf are the operations of a walk that have ended and had steps, but for those of which on is nil.
func DoneOf[S any](w *Walk, on func(o api.Op, a api.Answer) func(state S) (S, bool)) []Done[S] {
	var list []Done[S]
	w.Each(func(o api.Op, a api.Answer, at Span) {
		if does := on(o, a); does != nil && at.First >= 0 {
			list = append(list, Done[S]{First: at.First, Last: at.Last, On: does})
		}
	})
	return list
}

// Walker is a thread that tells what it has answered.
type Walker interface {
	Thread
	Told() []api.Answer
}

// TraceOf is what the walkers have answered by now, without an order; with what they have left.
func TraceOf[T Walker](walkers []T, state []int64) api.Trace {
	run := api.Trace{State: state}
	for _, w := range walkers {
		run.Answers = append(run.Answers, w.Told())
	}
	return run
}

// Follow lets the walkers go by the schedule; state tells what they leave.
func Follow[T Walker](walkers []T, schedule []int, most int, state func() []int64) api.Trace {
	order, stuck := Run(walkers, schedule, most)
	run := TraceOf(walkers, state())
	run.Order, run.Stuck = order, stuck
	return run
}

// SchedulesBehind is Schedules of threads that have done some first steps; those are in the order too.
func SchedulesBehind[T Thread](ahead []int, fresh func() []T, see func(order []int, threads []T)) {
	moved := func() []T {
		threads := fresh()
		Run(threads, ahead, len(ahead))
		return threads
	}
	Schedules(moved, func(order []int, threads []T) { see(slices.Concat(ahead, order), threads) })
}

// Foreign is the first one of so many runs that is none of those that can be; false if there is none.
func Foreign(free func() api.Trace, times int, can map[string]bool) (api.Trace, bool) {
	for range times {
		if got := free(); !can[Outcome(got)] || len(got.Order) != 0 {
			return got, true
		}
	}
	return api.Trace{}, false
}
