package solo_test

import (
	"runtime"
	"slices"
	"testing"

	"carillon/api"
	"carillon/solo"
	"carillon/turn"
)

// fair is a ring whose writer writes so many values, and whose readers read them all; by a schedule or freely.
type fair struct {
	t       *testing.T
	r       *solo.Solo
	all     int64
	stepped bool
	full    int
	empties []int
}

func newFair(t *testing.T, size, readers int, all int64) *fair {
	return &fair{t: t, r: ring(size, readers), all: all, empties: make([]int, readers)}
}

// try asks again and again; false where that has no end, so that a ring that is stuck fails the test.
func (f *fair) try(ask func() bool) bool {
	for range 1 << 24 {
		if ask() {
			return true
		}
		if !f.stepped {
			runtime.Gosched()
		}
	}
	f.t.Error("it has no end", look(f.r))
	return false
}

// write writes all, n at most at a time: by Writes, or by the steps of one, the items laid backwards and published one by one.
func (f *fair) write(s turn.Stepper, n int) {
	for q := int64(0); q < f.all; {
		count := int(min(f.all-q, 1+q%int64(n)))
		first, err := int64(0), api.OK
		if !f.try(func() bool {
			if q%3 == 0 {
				first, err = f.r.Claim(s, count)
			} else {
				first, err = f.r.Write(s, counted(q, count)...)
			}
			if err != api.OK {
				f.full++
			}
			return err == api.OK
		}) {
			return
		}
		if first != q {
			f.t.Error("claimed is", first, "and not", q)
			return
		}
		if q%3 == 0 {
			f.lay(s, q, count)
		}
		q += int64(count)
	}
}

func (f *fair) lay(s turn.Stepper, q int64, count int) {
	for i := int64(count) - 1; i >= 0; i-- {
		if err := f.r.Put(s, q+i, valueOf(q+i)); err != api.OK {
			f.t.Error("Put at", q+i, err)
		}
	}
	for i := range int64(count) {
		if err := f.r.Publish(s, q+i); err != api.OK {
			f.t.Error("Publish of", q+i, err)
		}
	}
}

// read reads all, one by one and some at a time, and holds each against what was written there.
func (f *fair) read(s turn.Stepper, k int) {
	for q := int64(0); q < f.all; {
		var values []int64
		err := api.OK
		if !f.try(func() bool {
			if (q+int64(k))%2 == 0 {
				var v int64
				v, err = f.r.Read(s, k)
				values = []int64{v}
			} else {
				values, err = f.r.Batch(s, k, int(q%7))
			}
			if err == api.ErrEmpty {
				f.empties[k]++
			}
			return err != api.ErrEmpty
		}) {
			return
		}
		if want := counted(q, len(values)); err != api.OK || len(values) == 0 || !slices.Equal(values, want) {
			f.t.Error("reader", k, "has", values, err, "and not", want)
			return
		}
		q += int64(len(values))
	}
}

// threads are the writer and the readers.
func (f *fair) threads(n int) []func(s turn.Stepper) {
	all := []func(s turn.Stepper){func(s turn.Stepper) { f.write(s, n) }}
	for k := range f.r.Readers() {
		all = append(all, func(s turn.Stepper) { f.read(s, k) })
	}
	return all
}

// left tells whether all was written, and read by all.
func (f *fair) left() bool {
	last := f.all - 1
	return look(f.r) == state(f.all, last, slices.Repeat([]int64{last}, f.r.Readers())...)
}

// TestSchedules is P12.7 where sequences are claimed, put and published by calls of their own, or by Writes.
func TestSchedules(t *testing.T) {
	c, full, empties := dice(6), 0, 0
	for range 1500 {
		size := 1 << c.Intn(4)
		f := newFair(t, size, c.between(1, 3), 30)
		f.stepped = true
		_, stuck, broken := turn.Over(f.threads(c.between(1, size)), c.schedule(0, f.r.Readers(), 150), api.MostSteps)
		if stuck || slices.Contains(broken, true) || !f.left() {
			t.Fatal(stuck, broken, look(f.r))
		}
		full += f.full
		for _, n := range f.empties {
			empties += n
		}
	}
	if full < 1000 || empties < 1000 {
		t.Error(full, empties)
	}
}

// TestFree is P12.7 of free threads.
func TestFree(t *testing.T) {
	for _, x := range []struct {
		size, readers, most int
	}{{1, 1, 1}, {1, 3, 1}, {2, 1, 2}, {2, 2, 1}, {4, 2, 4}, {8, 1, 3}, {8, 7, 8}, {64, 3, 9}, {64, 1, 64}, {1024, 2, 100}} {
		f := newFair(t, x.size, x.readers, 20000)
		if broken := turn.Go(f.threads(x.most)); slices.Contains(broken, true) || !f.left() {
			t.Error(x, broken, look(f.r))
		}
	}
}

// TestFreeNobody: without readers nothing holds the writer back, and the last items are left.
func TestFreeNobody(t *testing.T) {
	f := newFair(t, 8, 0, 20000)
	if turn.Go(f.threads(8)); f.full != 0 || !f.left() {
		t.Error(f.full, look(f.r))
	}
}

// TestFreeThreads: what Free's threads are told fits together.
func TestFreeThreads(t *testing.T) {
	c := dice(3)
	for range 60 {
		size, readers := 1<<c.Intn(7), c.between(0, 5)
		threads := [][]api.Op{c.fairWriter(size, 1500)}
		for range readers {
			threads = append(threads, c.reader(1500))
		}
		got := solo.Free(size, readers, threads)
		if len(got.Order) != 0 || got.Stuck || len(got.Answers) != len(threads) || len(got.State) != 2+readers+2*size {
			t.Fatal(len(got.Order), got.Stuck, len(got.Answers), len(got.State))
		}
		for i, list := range got.Answers {
			if len(list) != len(threads[i]) {
				t.Fatal(i, len(list))
			}
		}
		seen := seen{}
		seen.checkValues(t, threads, got)
		checkLeft(t, size, threads, got)
	}
}

// checkLeft holds what a fair run has left against its answers.
func checkLeft(t *testing.T, size int, threads [][]api.Op, got api.Trace) {
	t.Helper()
	next, r := int64(0), newShared(size, len(threads)-1)
	for i, a := range got.Answers[0] {
		if !a.OK {
			continue
		}
		if a.N != next {
			t.Fatal("written at", a.N, "and not at", next)
		}
		for j := range threads[0][i].B {
			slot := next % r.size
			r.stamps[slot], r.values[slot] = 2*(next/r.size), threads[0][i].A+j
			next++
		}
	}
	r.next, r.cursor = next, next-1
	for k, list := range got.Answers[1:] {
		for i, a := range list {
			if a.OK && threads[1+k][i].Kind == opRead {
				r.numbers[k]++
			}
			r.numbers[k] += int64(len(a.List))
		}
	}
	if !slices.Equal(got.State, r.state()) {
		t.Fatal("left is", got.State, "and not", r.state())
	}
}
