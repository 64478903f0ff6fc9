package plain_test

import (
	"testing"

	"carillon/plain"
)

// is an operation that has answered n of a number, and has added v to it.
func is(first, last, n, v int) plain.Done[int] {
	return plain.Done[int]{First: first, Last: last, On: func(state int) (int, bool) { return state + v, state == n }}
}

func TestInSomeOrder(t *testing.T) {
	type list = []plain.Done[int]
	for i, x := range []struct {
		threads []list
		want    bool
	}{
		{nil, true},
		{[]list{nil, {}}, true},
		{[]list{{is(0, 0, 0, 1)}}, true},
		{[]list{{is(0, 0, 1, 1)}}, false},
		{[]list{{is(0, 0, 0, 1), is(1, 1, 1, 1)}}, true},
		{[]list{{is(0, 0, 1, 1), is(1, 1, 0, 1)}}, false},
		{[]list{{is(0, 0, 0, 1)}, {is(1, 1, 1, 1)}}, true},
		{[]list{{is(0, 0, 1, 1)}, {is(1, 1, 0, 1)}}, false},
		{[]list{{is(0, 1, 1, 1)}, {is(1, 1, 0, 1)}}, true},
		{[]list{{is(0, 2, 1, 1)}, {is(1, 1, 0, 1)}}, true},
		{[]list{{is(0, 3, 1, 0)}, {is(1, 1, 0, 1), is(2, 2, 1, 1)}}, true},
		{[]list{{is(0, 3, 2, 0)}, {is(1, 1, 0, 1), is(2, 2, 1, 1)}}, true},
		{[]list{{is(0, 3, 3, 0)}, {is(1, 1, 0, 1), is(2, 2, 1, 1)}}, false},
		{[]list{{is(0, 1, 2, 0)}, {is(1, 1, 0, 1), is(2, 2, 1, 1)}}, false},
		// The first one that fits isn't the one that goes on.
		{[]list{{is(0, 9, 0, 2)}, {is(0, 9, 0, 0)}, {is(0, 9, 2, 0)}}, true},
		{[]list{{is(0, 9, 0, 2)}, {is(0, 9, 0, 2)}}, false},
	} {
		if got := plain.InSomeOrder(0, x.threads); got != x.want {
			t.Error(i, got)
		}
	}
}
