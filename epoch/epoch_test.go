package epoch_test

import (
	"fmt"
	"math"
	"slices"
	"testing"

	"carillon/api"
)

// with is the marks, but for m's, which is another one.
func with(marks []int64, m int, mark int64) []int64 {
	marks = slices.Clone(marks)
	marks[m] = mark
	return marks
}

// TestEnterLeave is P10.2 and P10.3 of each member of domains of some sizes and epochs.
func TestEnterLeave(t *testing.T) {
	for _, n := range []int{1, 2, 3, 63, 64} {
		for now := range int64(4) {
			d, marks := at(now, make([]int64, n)...), make([]int64, n)
			for _, m := range []int{0, n / 2, n - 1} {
				inside := with(marks, m, now+1)
				for range 2 {
					check(t, d, "Leave outside", leave(m), away, 0, state(now, marks...))
					check(t, d, "Enter", enter(m), number(now), 2, state(now, inside...))
					check(t, d, "Enter inside", enter(m), there, 0, state(now, inside...))
					check(t, d, "Leave", leave(m), done, 1, state(now, marks...))
				}
			}
			for m := range n {
				marks = with(marks, m, now+1)
				check(t, d, "Enter of all", enter(m), number(now), 2, state(now, marks...))
			}
			for m := range n {
				marks = with(marks, m, 0)
				check(t, d, "Leave of all", leave(m), done, 1, state(now, marks...))
			}
		}
	}
}

// TestEnterOfElder: a member that is inside stays in its epoch, however far the others are, and enters in theirs when it has left.
func TestEnterOfElder(t *testing.T) {
	for mark := int64(1); mark < 7; mark++ {
		for now := max(mark-1, 0); now < 7; now++ {
			d := at(now, 0, mark)
			check(t, d, "Enter inside", enter(1), there, 0, state(now, 0, mark))
			check(t, d, "Leave", leave(1), done, 1, state(now, 0, 0))
			check(t, d, "Enter", enter(1), number(now), 2, state(now, 0, now+1))
		}
	}
}

// holder is the first member that holds the epoch, or how many there are.
func holder(now int64, marks []int64) int {
	for m, mark := range marks {
		if mark != 0 && mark != now+1 {
			return m
		}
	}
	return len(marks)
}

// TestAdvance is P10.5 at all marks of three members, whoever asks.
func TestAdvance(t *testing.T) {
	held, free := 0, 0
	for now := range int64(4) {
		for code := range (now + 2) * (now + 2) * (now + 2) {
			marks := []int64{code % (now + 2), code / (now + 2) % (now + 2), code / (now + 2) / (now + 2)}
			for m := range marks {
				first := holder(now, marks)
				if first < len(marks) {
					check(t, at(now, marks...), fmt.Sprint("Advance by ", m), advance(m), none, first+2, state(now, marks...))
					held++
				} else {
					check(t, at(now, marks...), fmt.Sprint("Advance by ", m), advance(m), moved, 5, state(now+1, marks...))
					free++
				}
			}
		}
	}
	if held == 0 || free == 0 {
		t.Error(held, free)
	}
}

// TestAdvanceSizes: each member counts, of however many.
func TestAdvanceSizes(t *testing.T) {
	for n := 1; n <= api.MostThreads; n++ {
		marks := make([]int64, n)
		check(t, members(n), "Advance", advance(n-1), moved, n+2, state(1, marks...))
		for _, m := range []int{0, n / 2, n - 1} {
			elder := with(marks, m, 1)
			for by := range n {
				d := at(0, elder...)
				check(t, d, "Advance of those inside", advance(by), moved, n+2, state(1, elder...))
				check(t, d, "Advance that is held", advance(by), none, m+2, state(1, elder...))
			}
		}
	}
}

// TestHeld: a member that is inside lets the epoch move on by one, and when it has entered anew, by another one.
func TestHeld(t *testing.T) {
	d := at(5, 0, 0, 0)
	for now := int64(5); now < 20; now++ {
		check(t, d, "Enter", enter(1), number(now), 2, state(now, 0, now+1, 0))
		check(t, d, "Advance", advance(2), moved, 5, state(now+1, 0, now+1, 0))
		for m := range 3 {
			check(t, d, "Advance again", advance(m), none, 3, state(now+1, 0, now+1, 0))
		}
		check(t, d, "Leave", leave(1), done, 1, state(now+1, 0, 0, 0))
	}
}

// thingsOf are those that TestThings retires in an epoch: none, one or two.
func thingsOf(now int64) []int64 {
	var list []int64
	for i := range max(now, 0) % 3 {
		list = append(list, 10*now+i)
	}
	return list
}

// TestThings is P10.4, P10.6 and P10.7: things wait until the epoch is two above theirs, and are answered in order, once, by their own member alone, inside or outside.
func TestThings(t *testing.T) {
	for _, in := range []bool{false, true} {
		d := members(2)
		for now := range int64(9) {
			if in {
				all(enter(0), enter(1))(d, nil)
			}
			for _, thing := range thingsOf(now) {
				if got := retire(0, thing)(d, nil); !same(got, number(now)) {
					t.Error(in, now, got)
				}
			}
			retire(1, -now)(d, nil)
			for _, want := range []told{things(thingsOf(now - 2)...), none} {
				if got := collect(0)(d, nil); !same(got, want) || !slices.Equal(d.Waiting(0), append(thingsOf(now-1), thingsOf(now)...)) {
					t.Error(in, now, got, d.Waiting(0))
				}
			}
			all(leave(0), leave(1), advance(1))(d, nil)
		}
		check(t, d, "Collect", collect(0), things(thingsOf(7)...), 1, "9 [0 0] [[80 81] [0 -1 -2 -3 -4 -5 -6 -7 -8]]")
		check(t, d, "Collect of another member's", collect(1), things(0, -1, -2, -3, -4, -5, -6, -7), 1, "9 [0 0] [[80 81] [-8]]")
		rise(d, 11)
		check(t, d, "Collect of the last", collect(0), things(80, 81), 1, "11 [0 0] [[] [-8]]")
	}
}

// TestAnyThing: things are numbers of any kind, also the same one several times.
func TestAnyThing(t *testing.T) {
	list := []int64{math.MaxInt64, math.MinInt64, 0, -1, 7, 7, 0, 1 << 32, 7}
	d := members(3)
	for _, thing := range list {
		d.Retire(nil, 2, thing)
	}
	rise(d, 1)
	d.Retire(nil, 2, 7)
	rise(d, 2)
	if got, err := d.Collect(nil, 2); !slices.Equal(got, list) || err != api.OK || !slices.Equal(d.Waiting(2), []int64{7}) {
		t.Error(got, err, d.Waiting(2))
	}
}

// TestManyThings: as many as are retired come back.
func TestManyThings(t *testing.T) {
	const each = 20000
	d, back := members(1), int64(0)
	for now := range int64(6) {
		for i := range int64(each) {
			d.Retire(nil, 0, each*now+i)
		}
		list, _ := d.Collect(nil, 0)
		for _, thing := range list {
			if thing != back {
				t.Fatal(thing, back)
			}
			back++
		}
		if want := max(now-1, 0) * each; back != want || len(d.Waiting(0)) != int((now+1)*each-want) {
			t.Fatal(back, want, len(d.Waiting(0)))
		}
		rise(d, now+1)
	}
}

// scribble lays other numbers over a list, its spare room too.
func scribble(list []int64) {
	list = list[:cap(list)]
	for i := range list {
		list[i] = -9
	}
}

// TestAnswersAreNew is R3: what is answered is nobody else's.
func TestAnswersAreNew(t *testing.T) {
	d := at(2, 3, 0)
	all(retire(0, 5), retire(0, 6), advance(1), retire(0, 7))(d, nil)
	before := look(d)
	for range 2 {
		scribble(d.Marks())
		scribble(d.Waiting(0))
		scribble(d.Waiting(1))
		if look(d) != before {
			t.Fatal(look(d), before)
		}
	}
	all(leave(0), advance(1))(d, nil)
	got, _ := d.Collect(nil, 0)
	waiting := d.Waiting(0)
	if !slices.Equal(got, []int64{5, 6}) {
		t.Error(got)
	}
	scribble(got)
	d.Retire(nil, 0, 8)
	if !slices.Equal(waiting, []int64{7}) || look(d) != "4 [0 0] [[7 8] []]" {
		t.Error(waiting, look(d))
	}
}
