package plain_test

import (
	"slices"
	"testing"

	"carillon/api"
	"carillon/plain"
)

// walk is a thread of so many steps.
type walk struct{ left int }

func (w *walk) Ended() bool { return w.left == 0 }
func (w *walk) Step()       { w.left-- }

func walks(steps ...int) []*walk {
	var all []*walk
	for _, n := range steps {
		all = append(all, &walk{n})
	}
	return all
}

func TestRun(t *testing.T) {
	for _, x := range []struct {
		steps    []int
		schedule []int
		most     int
		order    []int
		stuck    bool
	}{
		{nil, []int{0, 1}, 9, nil, false},
		{[]int{2, 2}, nil, 9, []int{0, 1, 0, 1}, false},
		{[]int{2, 2}, []int{7, 1, 1, 1, -1}, 9, []int{1, 1, 0, 0}, false},
		{[]int{1, 3, 0}, []int{2, 1}, 9, []int{1, 0, 1, 1}, false},
		{[]int{2, 2}, []int{1}, 3, []int{1, 0, 1}, true},
		{[]int{2}, []int{0, 0}, 2, []int{0, 0}, false},
		{[]int{2}, []int{0, 0}, 0, nil, true},
	} {
		order, stuck := plain.Run(walks(x.steps...), x.schedule, x.most)
		if !slices.Equal(order, x.order) || stuck != x.stuck {
			t.Error(x, order, stuck)
		}
	}
}

func TestSchedules(t *testing.T) {
	var all [][]int
	plain.Schedules(func() []*walk { return walks(2, 0, 1) }, func(order []int, threads []*walk) {
		if slices.ContainsFunc(threads, func(w *walk) bool { return w.left != 0 }) {
			t.Error("not ended", order)
		}
		all = append(all, order)
	})
	if want := [][]int{{0, 0, 2}, {0, 2, 0}, {2, 0, 0}}; !slices.EqualFunc(all, want, slices.Equal) {
		t.Error(all)
	}
}

func TestOutcome(t *testing.T) {
	traces := []api.Trace{
		{},
		{Stuck: true},
		{State: []int64{0}},
		{State: []int64{1, 2}},
		{State: []int64{12}},
		{Answers: [][]api.Answer{{}}},
		{Answers: [][]api.Answer{{}, {}}},
		{Answers: [][]api.Answer{{{}}, {}}},
		{Answers: [][]api.Answer{{}, {{}}}},
		{Answers: [][]api.Answer{{{}}}},
		{Answers: [][]api.Answer{{{OK: true}}}},
		{Answers: [][]api.Answer{{{N: 1}}}},
		{Answers: [][]api.Answer{{{List: []int64{1}}}}},
		{Answers: [][]api.Answer{{{}, {}}}},
	}
	seen := map[string]int{}
	for i, run := range traces {
		if j, there := seen[plain.Outcome(run)]; there {
			t.Error(i, "the same as", j)
		}
		seen[plain.Outcome(run)] = i
	}
	bare := api.Trace{Answers: [][]api.Answer{nil, {{}}}}
	empty := api.Trace{Answers: [][]api.Answer{{}, {{List: []int64{}}}}, Order: []int{0}, State: []int64{}}
	if plain.Outcome(bare) != plain.Outcome(empty) {
		t.Error("nil and empty lists, or the order, make another outcome")
	}
}
