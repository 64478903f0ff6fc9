package plain

import (
	"slices"

	"carillon/api"
)

// Turns is a schedule: a thread so many times, and so on.
func Turns(pairs ...int) []int {
	var all []int
	for pair := range slices.Chunk(pairs, 2) {
		all = append(all, slices.Repeat(pair[:1], pair[1])...)
	}
	return all
}

// Same tells whether two runs are alike; of Free and Play, but for the order.
func Same(got, want api.Trace) bool {
	return Outcome(got) == Outcome(want) && slices.Equal(got.Order, want.Order)
}

// StepsAlone tells how many steps a thread that is let step alone behind a run needs to end the operation at which it stands; 0 if they are more than most.
func StepsAlone(play func(schedule []int, most int) api.Trace, before api.Trace, thread, most int) int {
	for steps := 1; steps <= most; steps++ {
		schedule := slices.Concat(before.Order, Turns(thread, steps))
		if len(play(schedule, len(schedule)).Answers[thread]) > len(before.Answers[thread]) {
			return steps
		}
	}
	return 0
}
