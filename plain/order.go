package plain

import "slices"

// Done is an operation that has ended: where its first and its last step stand in the run, and what it makes of a state; false if from there it would have answered something else.
type Done[S any] struct {
	First, Last int
	On          func(state S) (S, bool)
}

// InSomeOrder tells whether there is an order of the threads' operations, in which each stands between its first and its last step, that gives what they have answered.
func InSomeOrder[S any](state S, threads [][]Done[S]) bool {
	left, most := 0, 0
	for _, list := range threads {
		if len(list) == 0 {
			continue
		}
		if left == 0 || list[0].Last < most {
			most = list[0].Last
		}
		left += len(list)
	}
	if left == 0 {
		return true
	}
	for n, list := range threads {
		if len(list) > 0 && list[0].First <= most && goesOn(state, threads, n) {
			return true
		}
	}
	return false
}

// goesOn tells the same of the orders in which a thread's operation is the next one.
func goesOn[S any](state S, threads [][]Done[S], n int) bool {
	after, ok := threads[n][0].On(state)
	if !ok {
		return false
	}
	rest := slices.Clone(threads)
	rest[n] = rest[n][1:]
	return InSomeOrder(after, rest)
}
