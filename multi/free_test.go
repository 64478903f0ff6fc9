package multi_test

import (
	"runtime"
	"slices"
	"testing"

	"carillon/api"
	"carillon/multi"
	"carillon/turn"
)

// fair is a ring that some writers fill, each with as many values of its own, and whose readers read them all; by a schedule or freely.
type fair struct {
	t       *testing.T
	m       *multi.Multi
	first   int64
	writers int64
	each    int64
	stepped bool
	readers readers
	read    [][]int64
	full    []int
}

func newFair(t *testing.T, size int, first int64, writers, readers int, each int64) *fair {
	return &fair{
		t: t, m: ring(size, first), first: first, writers: int64(writers), each: each,
		readers: at(slices.Repeat([]int64{first - 1}, readers)...), read: make([][]int64, readers), full: make([]int, writers),
	}
}

// try asks again and again; false where that has no end, so that a ring that is stuck fails the test.
func (f *fair) try(ask func() bool) bool {
	for range 1 << 24 {
		if ask() {
			return true
		}
		if !f.stepped {
			runtime.Gosched()
		}
	}
	f.t.Error("it has no end", look(f.m))
	return false
}

// mark is a writer's value of a number; markOf tells whose it is.
func mark(writer, i int64) int64            { return writer<<32 | i }
func markOf(v int64) (writer, number int64) { return v >> 32, v & (1<<32 - 1) }

func marks(writer, i, n int64) []int64 {
	var all []int64
	for k := range n {
		all = append(all, mark(writer, i+k))
	}
	return all
}

// write writes all of a writer's, n at most at a time: by Offers, or by Claims, and then backwards.
func (f *fair) write(s turn.Stepper, writer, n int64) {
	before := f.first - 1
	for i := int64(0); i < f.each; {
		values := marks(writer, i, min(f.each-i, 1+(i+writer)%n))
		count := int64(len(values))
		last, err := int64(0), api.OK
		if !f.try(func() bool {
			if i%3 == 0 {
				last, err = f.m.Claim(s, f.readers, count)
			} else {
				last, err = f.m.Offer(s, f.readers, values...)
			}
			if err == api.ErrFull {
				f.full[writer]++
			}
			return err != api.ErrFull
		}) {
			return
		}
		if err != api.OK || last-count < before {
			f.t.Error("writer", writer, "has", last, err, "behind", before)
			return
		}
		for k := count - 1; k >= 0 && i%3 == 0; k-- {
			f.m.Write(s, last-count+1+k, values[k])
		}
		before = last
		i += count
	}
}

// readAll reads up to what is published, again and again, and tells how far it has come.
func (f *fair) readAll(s turn.Stepper, k int) {
	last := f.first + f.writers*f.each - 1
	for next := f.first; next <= last; {
		high := int64(0)
		if !f.try(func() bool {
			high = f.m.Published(s, next)
			return high >= next
		}) {
			return
		}
		for q := next; q <= high; q++ {
			v, err := f.m.Ring().Get(s, q)
			if err != api.OK {
				f.t.Error("reader", k, "at", q, err)
				return
			}
			f.read[k] = append(f.read[k], v)
		}
		f.readers[k].Store(s, high)
		next = high + 1
	}
}

func (f *fair) threads(n int64) []func(s turn.Stepper) {
	var all []func(s turn.Stepper)
	for writer := range f.writers {
		all = append(all, func(s turn.Stepper) { f.write(s, writer, n) })
	}
	for k := range f.readers {
		all = append(all, func(s turn.Stepper) { f.readAll(s, k) })
	}
	return all
}

// check is P3: all readers have seen the same, all of it, each writer's in its own order.
func (f *fair) check() {
	f.t.Helper()
	all := f.writers * f.each
	if cursor := f.m.Cursor(nil); cursor != f.first+all-1 {
		f.t.Error("the cursor is", cursor)
	}
	for k, read := range f.read {
		if !slices.Equal(read, f.read[0]) || int64(len(read)) != all {
			f.t.Error("reader", k, "has seen", len(read))
		}
	}
	if len(f.read) == 0 {
		return
	}
	next := make([]int64, f.writers)
	for at, v := range f.read[0] {
		writer, i := markOf(v)
		if writer >= f.writers || next[writer] != i {
			f.t.Error("at", at, "is", i, "of", writer)
			return
		}
		next[writer]++
	}
}

// TestSchedules is P3 and P13.7 where writers and readers go on as they find it.
func TestSchedules(t *testing.T) {
	c, full := dice(6), 0
	for range 800 {
		size := 1 << c.Intn(4)
		f := newFair(t, size, c.number(0, 9), c.between(1, 3), c.between(0, 2), 12)
		f.stepped = true
		threads := f.threads(c.number(1, size))
		_, stuck, broken := turn.Over(threads, c.schedule(0, len(threads)-1, 200), api.MostSteps)
		if stuck || slices.Contains(broken, true) {
			t.Fatal(stuck, broken, look(f.m))
		}
		f.check()
		for _, n := range f.full {
			full += n
		}
	}
	if full < 1000 {
		t.Error(full)
	}
}

// TestFree is the same of free threads.
func TestFree(t *testing.T) {
	for _, x := range []struct {
		size, writers, readers int
		most                   int64
	}{{1, 1, 1, 1}, {1, 3, 2, 1}, {2, 2, 1, 2}, {2, 4, 2, 1}, {4, 3, 1, 4}, {8, 2, 2, 3}, {8, 7, 3, 8}, {64, 3, 3, 9}, {64, 8, 1, 64}, {1024, 4, 2, 100}, {4, 3, 0, 3}} {
		f := newFair(t, x.size, 5, x.writers, x.readers, 15000)
		if broken := turn.Go(f.threads(x.most)); slices.Contains(broken, true) {
			t.Error(x, broken, look(f.m))
		}
		f.check()
	}
}

// TestFreeClaims: nobody gets what another one has claimed, where all claim as fast as they can; P6.
func TestFreeClaims(t *testing.T) {
	const size, crowd = api.MostSize, 8
	m, got := ring(size, 3), make([][]int64, crowd)
	threads := make([]func(s turn.Stepper), crowd)
	for i := range threads {
		threads[i] = func(turn.Stepper) {
			for n := int64(1); ; n = 1 + n%7 {
				last, err := m.Claim(nil, nil, n)
				if err != api.OK {
					return
				}
				got[i] = append(got[i], from(last-n, n)...)
			}
		}
	}
	turn.Go(threads)
	all := slices.Concat(got...)
	slices.Sort(all)
	if cursor := m.Cursor(nil); cursor < size-6+2 || !slices.Equal(all, from(2, cursor-2)) {
		t.Error(cursor, len(all))
	}
}

// TestFreeThreads: what Free's threads are told fits together, and what they leave too.
func TestFreeThreads(t *testing.T) {
	c, seen := dice(3), seen{}
	for range 100 {
		size := int64(1) << c.Intn(7)
		start := numbers(size, c.number(0, 9))
		for range c.Intn(3) {
			start = append(start, start[1]-1)
		}
		threads := c.fair(start, c.between(1, 5), 800)
		got := multi.Free(start, threads)
		if len(got.Order) != 0 || got.Stuck || len(got.Answers) != len(threads) || len(got.State) != len(start)+2*int(size) {
			t.Fatal(len(got.Order), got.Stuck, len(got.Answers), len(got.State))
		}
		for i, list := range got.Answers {
			if len(list) != len(threads[i]) {
				t.Fatal(i, len(list))
			}
		}
		written := seen.checkAnswers(t, threads, got, start[1])
		stamps, values := got.State[len(start):][:size], got.State[len(start):][size:]
		for q := max(start[1], got.State[0]-size+1); q <= got.State[0]; q++ {
			if stamps[q%size] != 2*(q/size) || values[q%size] != written[q] {
				t.Fatal(start, q, written[q], got.State)
			}
		}
	}
	if seen.claimed < 10000 || seen.found < 1000 {
		t.Error(seen)
	}
}
