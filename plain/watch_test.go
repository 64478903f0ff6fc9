package plain_test

import (
	"slices"
	"strconv"
	"testing"

	"carillon/plain"
	"carillon/turn"
)

func TestWatched(t *testing.T) {
	for _, x := range []struct {
		between []int
		want    []string
	}{
		{nil, []string{"0", "1", "2"}},
		{[]int{1}, []string{"0", "11", "12"}},
		{[]int{2}, []string{"0", "1", "12"}},
		{[]int{2, 1, 3, 0}, []string{"0", "11", "22"}},
	} {
		n, between := 0, map[int]func(){}
		for _, at := range x.between {
			between[at] = func() { n += 10 }
		}
		got := plain.Watched(func() string { return strconv.Itoa(n) }, between, func(s turn.Stepper) {
			for range 2 {
				s.Step()
				n++
			}
		})
		if !slices.Equal(got, x.want) {
			t.Error(x.between, got)
		}
	}
	if got := plain.Watched(func() string { return "still" }, nil, func(turn.Stepper) {}); !slices.Equal(got, []string{"still"}) {
		t.Error(got)
	}
}
