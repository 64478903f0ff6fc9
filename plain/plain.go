// Package plain goes through runs by a schedule in one goroutine, without the turnstile, as DOC.md's words say: tests hold a layer's own runs against a plain reading of its chapter.
package plain

import (
	"slices"
	"strconv"

	"carillon/api"
)

// Thread is a thread that stands at a step, or has ended.
type Thread interface {
	Ended() bool
	Step()
}

// Run lets the threads do their steps by the schedule.
func Run[T Thread](threads []T, schedule []int, most int) (order []int, stuck bool) {
	for at := 0; going(threads) && len(order) < most; at++ {
		n := turnOf(schedule, at, len(threads))
		if n >= 0 && n < len(threads) && !threads[n].Ended() {
			threads[n].Step()
			order = append(order, n)
		}
	}
	return order, going(threads)
}

// Schedules hands on the order of the steps of each run that the threads can have, with the threads as they are behind it. Fresh makes them anew, each time as they are at first.
func Schedules[T Thread](fresh func() []T, see func(order []int, threads []T)) {
	follow(nil, fresh, see)
}

func follow[T Thread](order []int, fresh func() []T, see func(order []int, threads []T)) {
	threads := fresh()
	if _, stuck := Run(threads, order, len(order)); !stuck {
		see(order, threads)
		return
	}
	for n, thread := range threads {
		if !thread.Ended() {
			follow(append(slices.Clone(order), n), fresh, see)
		}
	}
}

// Outcome is all that a run tells but for its order, in one text: Free has no order.
func Outcome(run api.Trace) string {
	text := ""
	for _, answers := range run.Answers {
		for _, a := range answers {
			text += strconv.FormatBool(a.OK) + " " + strconv.FormatInt(a.N, 10) + list(a.List) + ", "
		}
		text += "| "
	}
	return text + strconv.FormatBool(run.Stuck) + list(run.State)
}

func list(all []int64) string {
	text := " ["
	for _, n := range all {
		text += strconv.FormatInt(n, 10) + " "
	}
	return text + "]"
}

func going[T Thread](threads []T) bool {
	return slices.ContainsFunc(threads, func(thread T) bool { return !thread.Ended() })
}

// turnOf is round and round behind the schedule's end.
func turnOf(schedule []int, at, threads int) int {
	if at < len(schedule) {
		return schedule[at]
	}
	return (at - len(schedule)) % threads
}
