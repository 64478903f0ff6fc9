package slots_test

import (
	"fmt"
	"math"
	"slices"
	"testing"

	"carillon/api"
	"carillon/slots"
	"carillon/turn"
)

// badSequences are those that are no good ones.
func badSequences() []int64 {
	return []int64{math.MinInt64, math.MinInt64 + 1, -1 << 62, -1 << 32, -65536, -4, -3, -2, -1, end, end + 1, end + 65536, math.MaxInt64 - 1, math.MaxInt64}
}

// TestNew is P11.1: sizes, and what a new ring is like; two of them share nothing.
func TestNew(t *testing.T) {
	bad := []int{math.MinInt, -1 << 62, -1 << 32, -65536, 65535, 65537, 98304, 1 << 17, 1 << 31, 1 << 32, 1<<32 + 1, 1<<32 + 2, 1 << 62, math.MaxInt - 1, math.MaxInt}
	for n := -70; n < 1000; n++ {
		if n < 1 || 65536%n != 0 {
			bad = append(bad, n)
		}
	}
	for _, size := range bad {
		if r, err := slots.New(size); r != nil || err != api.ErrRange {
			t.Error(size, err)
		}
	}
	good := 0
	for size := 1; size <= api.MostSize; size *= 2 {
		r, err := slots.New(size)
		other := empty(size)
		want := state(slices.Repeat([]int64{-2}, size), make([]int64, size))
		if err != api.OK || r.Size() != size || look(r) != want {
			t.Error(size, err, r.Size())
		}
		all(put(0, 7), put(int64(size)-1, 8))(r, nil)
		if look(other) != want || look(r) == want || r.Size() != size {
			t.Error(size, "two rings share their slots")
		}
		good++
	}
	if good != 17 {
		t.Error(good)
	}
}

// TestSlotAndLap is P11.1: they tell a sequence apart from all others.
func TestSlotAndLap(t *testing.T) {
	for size := int64(1); size <= api.MostSize; size *= 2 {
		r := empty(int(size))
		for _, q := range []int64{0, 1, 2, 3, 5, 7, size - 1, size, size + 1, 2*size - 1, 2 * size, 3*size + size/2, 65535, 65536, 1<<31 - 1, 1 << 31, 1 << 32, 1<<32 + 3, end/2 - 1, end / 2, end - size, end - 2, end - 1} {
			slot, lap := int64(r.Slot(q)), r.Lap(q)
			if slot < 0 || slot >= size || lap < 0 || lap*size+slot != q {
				t.Error(size, q, slot, lap)
			}
		}
		for _, q := range badSequences() {
			if r.Slot(q) != 0 || r.Lap(q) != -1 {
				t.Error(size, q, r.Slot(q), r.Lap(q))
			}
		}
	}
	r := empty(2)
	if r.Slot(5) != 1 || r.Lap(5) != 2 || r.Slot(4) != 0 || r.Lap(4) != 2 {
		t.Error(r.Slot(5), r.Lap(5))
	}
}

// TestPut is P11.2 over all that may stand there: nothing is looked at.
func TestPut(t *testing.T) {
	for _, size := range []int{1, 2, 4} {
		for q := range int64(3 * size) {
			everyStamps(size, 2, func(stamps []int64) {
				r := stamped(stamps...)
				after, values := slices.Clone(stamps), r.Values()
				after[q%int64(size)], values[q%int64(size)] = 2*(q/int64(size)), -7
				check(t, r, fmt.Sprint("Put at ", q), put(q, -7), done, 3, state(after, values))
			})
		}
	}
	for _, v := range []int64{0, 1, -1, math.MinInt64, math.MaxInt64} {
		check(t, filled(2, 5, 6), "Put", put(3, v), done, 3, state([]int64{0, 2}, []int64{5, v}))
	}
}

// read is what a thread that is alone gets of a sequence, and in how many steps, where these are the stamps that stamped has made.
func read(stamps []int64, q int64) (told, int) {
	size := int64(len(stamps))
	switch x, lap := stamps[q%size], q/size; {
	case x < 2*lap:
		return none, 1
	case x > 2*lap:
		return lost, 1
	}
	return number(valueOf(q)), 3
}

// TestGetAndThere is P11.3 and P11.4 over all that may stand there.
func TestGetAndThere(t *testing.T) {
	for size, most := range map[int]int64{1: 9, 2: 6, 4: 3} {
		everyStamps(size, most, func(stamps []int64) {
			r := stamped(stamps...)
			for q := range int64(5 * size) {
				want, steps := read(stamps, q)
				check(t, r, fmt.Sprint("Get of ", q), get(q), want, steps, look(r))
				check(t, r, fmt.Sprint("There of ", q), there(q), told{yes: want.err == api.OK}, 1, look(r))
			}
		})
	}
}

// upTo is what Highest tells of these stamps, and in how many steps.
func upTo(stamps []int64, from, to int64) (told, int) {
	steps, size := 0, int64(len(stamps))
	for q := from; q <= to && q < from+size; q++ {
		steps++
		if stamps[q%size] != 2*(q/size) {
			return number(q - 1), steps
		}
	}
	return number(from + int64(steps) - 1), steps
}

// TestHighest is P11.5 over all that may stand there.
func TestHighest(t *testing.T) {
	for size, most := range map[int]int64{1: 9, 2: 6, 4: 2} {
		everyStamps(size, most, func(stamps []int64) {
			r, far := stamped(stamps...), int64(2*size+3)
			for from := range far {
				for _, to := range []int64{math.MinInt64, -1, from - 2, from - 1, from, from + 1, from + 2, from + 3, from + 4, from + 5, end - 1, end, math.MaxInt64} {
					want, steps := upTo(stamps, from, to)
					check(t, r, fmt.Sprint("Highest from ", from, " to ", to), highest(from, to), want, steps, look(r))
				}
			}
		})
	}
}

// gathered is what Gather tells of these stamps, and in how many steps.
func gathered(stamps []int64, from int64, most int) (told, int) {
	var list []int64
	steps := 0
	for len(list) < min(most, len(stamps)) {
		one, more := read(stamps, from+int64(len(list)))
		steps += more
		if one.err != api.OK && len(list) == 0 {
			return one, steps
		}
		if one.err != api.OK {
			break
		}
		list = append(list, one.n)
	}
	return items(list...), steps
}

// TestGather is P11.6 over all that may stand there.
func TestGather(t *testing.T) {
	for size, most := range map[int]int64{1: 9, 2: 6, 4: 2} {
		everyStamps(size, most, func(stamps []int64) {
			r := stamped(stamps...)
			for from := range int64(2*size + 3) {
				for _, count := range []int{math.MinInt, -1 << 32, -1, 0, 1, 2, 3, 4, 5, 1 << 32, math.MaxInt} {
					want, steps := gathered(stamps, from, count)
					check(t, r, fmt.Sprint("Gather of ", count, " from ", from), gather(from, count), want, steps, look(r))
				}
			}
		})
	}
}

// TestExample is the chapter's calls of a ring of the size 2.
func TestExample(t *testing.T) {
	r := empty(2)
	check(t, r, "Put(0, 7)", put(0, 7), done, 3, "[0 -2] [7 0]")
	check(t, r, "Put(1, 8)", put(1, 8), done, 3, "[0 0] [7 8]")
	check(t, r, "Get(0)", get(0), number(7), 3, "[0 0] [7 8]")
	check(t, r, "Get(2)", get(2), none, 1, "[0 0] [7 8]")
	check(t, r, "Put(2, 9)", put(2, 9), done, 3, "[2 0] [9 8]")
	check(t, r, "Get(0)", get(0), lost, 1, "[2 0] [9 8]")
	check(t, r, "Get(2)", get(2), number(9), 3, "[2 0] [9 8]")
	check(t, r, "Highest(0, 5)", highest(0, 5), number(-1), 1, "[2 0] [9 8]")
	check(t, r, "Highest(1, 5)", highest(1, 5), number(2), 2, "[2 0] [9 8]")
	check(t, r, "Highest(1, 1)", highest(1, 1), number(1), 1, "[2 0] [9 8]")
	check(t, r, "Highest(3, 9)", highest(3, 9), number(2), 1, "[2 0] [9 8]")
	check(t, r, "Gather(1, 9)", gather(1, 9), items(8, 9), 6, "[2 0] [9 8]")
	check(t, r, "Gather(3, 9)", gather(3, 9), none, 1, "[2 0] [9 8]")
	check(t, r, "Gather(3, 0)", gather(3, 0), items(), 0, "[2 0] [9 8]")
}

// TestBadSequences: what is no good sequence is refused without a step; a Step would end the thread.
func TestBadSequences(t *testing.T) {
	rings := map[string]*slots.Ring{"one": filled(1, 5), "two": filled(2, 5, 6, 7), "new": empty(4), "stamped": stamped(2, 1, 0, 0), "greater": empty(64)}
	for name, r := range rings {
		before := look(r)
		for _, q := range badSequences() {
			below := number(max(q, math.MinInt64+1) - 1)
			for what, x := range map[string]struct {
				do   call
				want told
			}{
				"Put": {put(q, 5), foreign}, "Get": {get(q), foreign}, "There": {there(q), no},
				"Gather": {gather(q, 9), foreign}, "Gather of none": {gather(q, 0), foreign}, "Gather of the least": {gather(q, math.MinInt), foreign},
				"Highest": {highest(q, math.MaxInt64), below}, "Highest of itself": {highest(q, q), below}, "Highest of the good": {highest(q, 5), below}, "Highest of the least": {highest(q, math.MinInt64), below},
			} {
				check(t, r, fmt.Sprint(what, " of ", q, " of ", name), x.do, x.want, 0, before)
				if back := turn.Alone(turn.NewCounter(0), func(s turn.Stepper) { x.do(r, s) }); !back || !same(x.do(r, nil), x.want) {
					t.Error(name, what, q, "has done a step, or has panicked")
				}
			}
		}
	}
}

// TestNone is P11.8: a nil and the zero ring have no slots.
func TestNone(t *testing.T) {
	sequences := append(badSequences(), 0, 1, 2, 65535, 65536, 1<<32, end-1)
	for name, r := range map[string]*slots.Ring{"nil": nil, "zero": {}} {
		if r.Size() != 0 || len(r.Stamps()) != 0 || len(r.Values()) != 0 {
			t.Error(name, r.Size(), look(r))
		}
		for _, q := range sequences {
			below := number(max(q, math.MinInt64+1) - 1)
			for _, n := range sequences {
				check(t, r, fmt.Sprint("Put at ", q, " of ", name), put(q, n), foreign, 0, "[] []")
				check(t, r, fmt.Sprint("Gather from ", q, " of ", name), gather(q, int(n)), foreign, 0, "[] []")
				check(t, r, fmt.Sprint("Highest from ", q, " to ", n, " of ", name), highest(q, n), below, 0, "[] []")
			}
			check(t, r, fmt.Sprint("Get of ", q, " of ", name), get(q), foreign, 0, "[] []")
			check(t, r, fmt.Sprint("There of ", q, " of ", name), there(q), no, 0, "[] []")
			all(put(q, 1), get(q), there(q), highest(q, q), gather(q, 1))(r, nil)
			lap := int64(0)
			if q < 0 || q >= end {
				lap = -1
			}
			if r.Slot(q) != 0 || r.Lap(q) != lap {
				t.Error(name, q, r.Slot(q), r.Lap(q))
			}
		}
	}
}

// TestLastSequences: up to the last good one all goes on, and no further.
func TestLastSequences(t *testing.T) {
	for size := int64(1); size <= 1<<10; size *= 2 {
		r, few := empty(int(size)), min(size, 5)
		var want []int64
		for q := end - few; q < end; q++ {
			if err := r.Put(nil, q, q-7); err != api.OK {
				t.Error(size, q, err)
			}
			want = append(want, q-7)
		}
		before, last := look(r), int(few)
		if stamps := r.Stamps(); stamps[size-1] != 2*(end/size-1) {
			t.Error(size, stamps[size-1])
		}
		check(t, r, "Get of the last", get(end-1), number(end-8), 3, before)
		check(t, r, "Get of the same slot's first", get(size-1), lost, 1, before)
		check(t, r, "There of the last", there(end-1), lies, 1, before)
		for i := range few {
			from, left := end-few+i, last-int(i)
			for _, to := range []int64{end - 1, end, end + 1, math.MaxInt64} {
				check(t, r, fmt.Sprint("Highest to ", to), highest(from, to), number(end-1), left, before)
			}
			check(t, r, "Gather", gather(from, math.MaxInt), items(want[i:]...), 3*left, before)
			check(t, r, "Gather of one", gather(from, 1), items(want[i]), 3, before)
		}
	}
	// A ring whose greatest lap is being laid.
	r := empty(1)
	half(put(end-1, 5), 2)(r, nil)
	before := look(r)
	check(t, r, "Get", get(end-1), none, 1, before)
	check(t, r, "Get of the one ahead", get(end-2), lost, 1, before)
	if r.Stamps()[0] != math.MaxInt64-2 {
		t.Error(before)
	}
}

// TestGreatRing: once round the greatest ring, and no further.
func TestGreatRing(t *testing.T) {
	const size = api.MostSize
	r := empty(size)
	var want []int64
	for q := range int64(size + 5) {
		r.Put(nil, q, valueOf(q))
		if q >= 5 {
			want = append(want, valueOf(q))
		}
	}
	before := look(r)
	check(t, r, "Highest", highest(5, end), number(size+4), size, before)
	check(t, r, "Highest from below", highest(4, end), number(3), 1, before)
	check(t, r, "Highest of some", highest(6, end), number(size+4), size, before)
	check(t, r, "Gather", gather(5, math.MaxInt), items(want...), 3*size, before)
	check(t, r, "Gather of all but one", gather(5, size-1), items(want[:size-1]...), 3*(size-1), before)
	check(t, r, "Gather of some", gather(9, size), items(want[4:]...), 3*(size-4)+1, before)
}

// TestMemory: no answer shares memory with another one, or with the ring, and none changes with it.
func TestMemory(t *testing.T) {
	r := filled(4, 5, 6, 7, 8)
	first, _ := r.Gather(nil, 0, 3)
	lists := [][]int64{r.Stamps(), r.Stamps(), r.Values(), r.Values(), first}
	for _, list := range lists {
		scribble(list)
	}
	if look(r) != "[0 0 0 0] [5 6 7 8]" {
		t.Error(look(r))
	}
	stamps, values := r.Stamps(), r.Values()
	first, _ = r.Gather(nil, 0, 9)
	r.Put(nil, 5, 9)
	if state(stamps, values) != "[0 0 0 0] [5 6 7 8]" || !slices.Equal(first, []int64{5, 6, 7, 8}) {
		t.Error("an answer changes with the ring", stamps, values, first)
	}
	if again, _ := r.Gather(nil, 5, 1); !slices.Equal(again, []int64{9}) {
		t.Error(again)
	}
}
