package gate_test

import (
	"runtime"
	"slices"
	"sync/atomic"
	"testing"

	"carillon/api"
	"carillon/gate"
	"carillon/multi"
	"carillon/turn"
)

// fair is a ring of many writers who are held back by a gate's members: readers who join, read some, leave, and join anew; by a schedule or freely.
type fair struct {
	t       *testing.T
	m       *multi.Multi
	g       *gate.Gate
	writers int64
	each    int64
	stepped bool
	writing atomic.Int64
	read    []map[int64]int64
	full    []int
}

func newFair(t *testing.T, size, writers, readers int, each int64) *fair {
	m, _ := multi.New(size, 0)
	f := &fair{t: t, m: m, g: gate.New(), writers: int64(writers), each: each, full: make([]int, writers)}
	f.writing.Store(f.writers)
	for range readers {
		f.read = append(f.read, map[int64]int64{})
	}
	return f
}

// rest lets others go on, where a schedule doesn't.
func (f *fair) rest() {
	if !f.stepped {
		runtime.Gosched()
	}
}

// mark is a writer's value of a number.
func mark(writer, i int64) int64 { return writer<<32 | i }

func (f *fair) write(s turn.Stepper, writer int64) {
	defer f.writing.Add(-1)
	for i, tries := int64(0), 0; i < f.each; tries++ {
		values := []int64{mark(writer, i), mark(writer, i+1)}[:min(f.each-i, 1+i%2, int64(f.m.Size()))]
		_, err := f.m.Offer(s, f.g, values...)
		switch {
		case err == api.OK:
			i += int64(len(values))
		case err != api.ErrFull || tries > 1<<24:
			f.t.Error("writer", writer, "has", err, "of", i)
			return
		default:
			f.full[writer]++
			f.rest()
		}
	}
}

// enter is how a reader joins that is to begin behind all that was claimed by then; the first sequence that is its own.
func (f *fair) enter(s turn.Stepper, place int) int64 {
	c := f.m.Cursor(s)
	if err := f.g.Join(s, place, c); err != api.OK {
		f.t.Error("reader", place, "joins", err)
	}
	e := f.m.Cursor(s)
	f.g.Set(s, place, e)
	return e + 1
}

// readSome reads n values at most from next on, up to what the writers have left in the end, and leaves; whether there may be more. From where it has joined on all must be there: nobody overtakes it.
func (f *fair) readSome(s turn.Stepper, place int, next int64, n int) bool {
	for n > 0 {
		last := f.writing.Load() == 0
		high := f.m.Published(s, next)
		if high < next {
			if last {
				break
			}
			f.rest()
			continue
		}
		for ; next <= high; next++ {
			v, err := f.m.Ring().Get(s, next)
			if err != api.OK {
				f.t.Error("reader", place, "at", next, err)
				return false
			}
			f.read[place][next] = v
			n--
		}
		f.g.Set(s, place, high)
	}
	if err := f.g.Leave(s, place); err != api.OK {
		f.t.Error("reader", place, "leaves", err)
	}
	return n <= 0
}

func (f *fair) threads(n int) []func(s turn.Stepper) {
	var all []func(s turn.Stepper)
	for writer := range f.writers {
		all = append(all, func(s turn.Stepper) { f.write(s, writer) })
	}
	for place := range f.read {
		first := f.ahead(place)
		all = append(all, func(s turn.Stepper) {
			for more := f.readSome(s, place, first(s), n); more; {
				more = f.readSome(s, place, f.enter(s, place), n)
			}
		})
	}
	return all
}

// ahead lets every other reader join ahead of the run, so that the writers can't have ended before anybody reads.
func (f *fair) ahead(place int) func(s turn.Stepper) int64 {
	if place%2 == 0 {
		next := f.enter(nil, place)
		return func(turn.Stepper) int64 { return next }
	}
	return func(s turn.Stepper) int64 { return f.enter(s, place) }
}

// check is P3 and P4: at each sequence all readers have seen the same, and each writer's values in its own order; how many were seen.
func (f *fair) check() int {
	f.t.Helper()
	if cursor := f.m.Cursor(nil); cursor != f.writers*f.each-1 || len(f.g.Members()) != 0 {
		f.t.Error("the cursor is", cursor, "and members are", f.g.Members())
	}
	all, last := map[int64]int64{}, slices.Repeat([]int64{-1}, int(f.writers))
	for q := range f.writers * f.each {
		for place, read := range f.read {
			v, there := read[q]
			if !there {
				continue
			}
			if before, there := all[q]; there && before != v {
				f.t.Error("reader", place, "has", v, "at", q, "where another one has", before)
			}
			all[q] = v
		}
		if v, there := all[q]; there {
			if v&(1<<32-1) <= last[v>>32] {
				f.t.Error("at", q, "is", v, "behind", last[v>>32])
			}
			last[v>>32] = v & (1<<32 - 1)
		}
	}
	return len(all)
}

// TestHolder is P3 and P4 of writers whose Holder is a gate, by schedules.
func TestHolder(t *testing.T) {
	c, full, read := dice(6), 0, 0
	for range 600 {
		f := newFair(t, 1<<c.Intn(4), c.between(1, 3), c.between(0, 3), 20)
		f.stepped = true
		threads := f.threads(c.between(1, 12))
		_, stuck, broken := turn.Over(threads, c.schedule(0, len(threads)-1, 300), api.MostSteps)
		if stuck || slices.Contains(broken, true) {
			t.Fatal(stuck, broken, look(f.g))
		}
		read += f.check()
		for _, n := range f.full {
			full += n
		}
	}
	if full < 500 || read < 5000 {
		t.Error(full, read)
	}
}

// TestFreeHolder is the same of free threads.
func TestFreeHolder(t *testing.T) {
	for _, x := range []struct{ size, writers, readers, some int }{{1, 1, 1, 5}, {1, 3, 2, 50}, {2, 2, 3, 9}, {4, 3, 1, 4000}, {8, 4, 4, 100}, {64, 3, 3, 999}, {1024, 2, 4, 77}, {4, 3, 0, 1}} {
		f := newFair(t, x.size, x.writers, x.readers, 6000)
		if broken := turn.Go(f.threads(x.some)); slices.Contains(broken, true) {
			t.Error(x, broken, look(f.g))
		}
		if read := f.check(); x.readers > 0 && read == 0 {
			t.Error(x, "nothing was read")
		}
	}
}

// TestHolderCalls: a gate is asked as a Holder is: it holds back by its least, and without members nobody does; a nil one neither.
func TestHolderCalls(t *testing.T) {
	var none *gate.Gate
	for _, x := range []struct {
		name string
		h    multi.Holder
		err  api.Errno
	}{
		{"nil", none, api.OK}, {"none", gate.New(), api.OK}, {"one that is there", at(1), api.OK}, {"one that isn't", at(0), api.ErrFull},
		{"one of two that isn't", at(1, 0), api.ErrFull}, {"one who has left", after(join(0, 0), leave(0)), api.OK}, {"no member", after(set(0, 0)), api.OK},
	} {
		m, _ := multi.New(2, 0)
		m.Offer(nil, x.h, 7, 8)
		if _, err := m.Claim(nil, x.h, 2); err != x.err {
			t.Error(x.name, err)
		}
	}
}
