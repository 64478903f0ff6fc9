package plain_test

import (
	"slices"
	"testing"

	"carillon/api"
	"carillon/plain"
)

func TestTurns(t *testing.T) {
	if got := plain.Turns(3, 2, 0, 0, 1, 1, -1, 1); !slices.Equal(got, []int{3, 3, 1, -1}) {
		t.Error(got)
	}
	if got := plain.Turns(); len(got) != 0 {
		t.Error(got)
	}
}

func TestSame(t *testing.T) {
	run := api.Trace{Answers: [][]api.Answer{{{N: 1}}}, Order: []int{0}, State: []int64{2}}
	if !plain.Same(run, run) || !plain.Same(api.Trace{}, api.Trace{Order: []int{}, State: []int64{}}) {
		t.Error("alike")
	}
	for i, other := range []api.Trace{
		{Answers: run.Answers, Order: []int{1}, State: run.State},
		{Answers: run.Answers, State: run.State},
		{Answers: run.Answers, Order: run.Order},
		{Answers: run.Answers, Order: run.Order, State: run.State, Stuck: true},
		{Answers: [][]api.Answer{{{N: 2}}}, Order: run.Order, State: run.State},
	} {
		if plain.Same(run, other) || plain.Same(other, run) {
			t.Error(i)
		}
	}
}

// TestStepsAlone: two threads of walks of three steps each, an answer a walk.
func TestStepsAlone(t *testing.T) {
	play := func(schedule []int, most int) api.Trace {
		threads := walks(9, 9)
		run := api.Trace{Answers: make([][]api.Answer, 2)}
		run.Order, run.Stuck = plain.Run(threads, schedule, most)
		for n, w := range threads {
			run.Answers[n] = make([]api.Answer, (9-w.left)/3)
		}
		return run
	}
	for _, x := range []struct {
		ahead              []int
		thread, most, want int
	}{
		{nil, 0, 9, 3},
		{nil, 1, 3, 3},
		{nil, 1, 2, 0},
		{nil, 1, 0, 0},
		{[]int{0}, 0, 9, 2},
		{[]int{0}, 1, 9, 3},
		{[]int{0, 1, 0, 1, 0, 1, 1}, 1, 9, 2},
		{[]int{0, 1, 0, 1, 0, 1, 1, 1}, 1, 9, 1},
		{[]int{0, 1, 0, 1, 0, 1, 1, 1}, 0, 9, 3},
	} {
		if got := plain.StepsAlone(play, play(x.ahead, len(x.ahead)), x.thread, x.most); got != x.want {
			t.Error(x, got)
		}
	}
}
