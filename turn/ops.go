package turn

import (
	"slices"

	"carillon/api"
)

// Ops is P1.3: each thread's operations, done by do, by the schedule.
func Ops(threads [][]api.Op, do func(s Stepper, thread int, op api.Op) api.Answer, schedule []int, most int) api.Trace {
	doers, answers := opThreads(threads, do)
	order, stuck, _ := Over(doers, schedule, most)
	return api.Trace{Answers: answers, Order: order, Stuck: stuck}
}

// OpsFree is P1.3: the same, as free goroutines.
func OpsFree(threads [][]api.Op, do func(s Stepper, thread int, op api.Op) api.Answer) api.Trace {
	doers, answers := opThreads(threads, do)
	Go(doers)
	return api.Trace{Answers: answers}
}

// opThreads makes the threads, and the lists into which each of them, at its own number, lays its answers.
func opThreads(threads [][]api.Op, do func(s Stepper, thread int, op api.Op) api.Answer) ([]func(s Stepper), [][]api.Answer) {
	threads = firstThreads(threads)
	answers := make([][]api.Answer, len(threads))
	doers := make([]func(s Stepper), len(threads))
	for i, ops := range threads {
		ops = ops[:min(len(ops), api.MostOps)]
		doers[i] = func(s Stepper) {
			for _, op := range ops {
				answers[i] = append(answers[i], doOne(do, s, i, op))
			}
		}
	}
	return doers, answers
}

// doOne copies the list: do may answer one that it keeps, or the same one twice.
func doOne(do func(s Stepper, thread int, op api.Op) api.Answer, s Stepper, thread int, op api.Op) api.Answer {
	if do == nil {
		return api.Answer{}
	}
	answer := do(s, thread, op)
	answer.List = slices.Clone(answer.List)
	return answer
}
