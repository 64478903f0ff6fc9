package slots_test

import (
	"math"
	"runtime"
	"testing"

	"carillon/api"
	"carillon/cell"
	"carillon/slots"
)

// fair is a ring that writers fill, each of them slots of its own, in order, while readers look; and how far each writer has come.
type fair struct {
	t       *testing.T
	r       *slots.Ring
	writers int64
	each    int64
	on      [crowd]cell.Word
}

// write puts the sequences of the slots that are its own. The ring's size is a multiple of the writers.
func (f *fair) write(n int64) {
	for q := n; q < f.each; q += f.writers {
		f.r.Put(nil, q, valueOf(q))
		f.on[n].Store(nil, q)
	}
}

// far is the least of the sequences that the writers have put last.
func (f *fair) far() int64 {
	least := int64(math.MaxInt64)
	for n := range f.writers {
		least = min(least, f.on[n].Load(nil))
	}
	return least
}

// meant holds values that lie from there on against what was put for their sequences.
func (f *fair) meant(from int64, values ...int64) {
	for i, v := range values {
		if q := from + int64(i); v != valueOf(q) {
			f.t.Error("at", q, "is", v)
		}
	}
}

// read takes what it finds, one by one and several at once, up to the end; what it has lost it passes over. It tells how many it has had.
func (f *fair) read() (had int64) {
	size := int64(f.r.Size())
	for q, round := int64(0), 0; q < f.each; round++ {
		var all []int64
		var err api.Errno
		if round%2 == 0 {
			var v int64
			v, err = f.r.Get(nil, q)
			all = []int64{v}
		} else {
			all, err = f.r.Gather(nil, q, 1+round%5)
		}
		switch err {
		case api.OK:
			f.meant(q, all...)
			had += int64(len(all))
			q += int64(len(all))
		case api.ErrLost:
			q = max(q+1, f.far())
		case api.ErrNone:
			runtime.Gosched()
		}
		if high := f.r.Highest(nil, q, q+3); high < q-1 || high > q+min(size-1, 3) || high >= f.each {
			f.t.Error("the highest from", q, "on is", high)
		}
	}
	return had
}

// TestFree is P11.3 of free threads: who reads has what was put for that very sequence, even while a later lap is being laid there.
func TestFree(t *testing.T) {
	for _, x := range []struct {
		size    int
		writers int64
	}{{1, 1}, {2, 1}, {2, 2}, {8, 1}, {8, 4}, {64, 2}} {
		f := &fair{t: t, r: empty(x.size), writers: x.writers, each: 64000}
		together(func(n int) {
			if int64(n) < f.writers {
				f.write(int64(n))
			} else if f.read() == 0 {
				t.Error(x, "has had nothing")
			}
		})
		last := f.each - int64(x.size)
		if high := f.r.Highest(nil, last, end); high != f.each-1 {
			t.Error(x, high)
		}
		left, err := f.r.Gather(nil, last, x.size)
		if f.meant(last, left...); len(left) != x.size || err != api.OK {
			t.Error(x, left, err)
		}
	}
}

// TestFreeThreads: what free threads are told fits together.
func TestFreeThreads(t *testing.T) {
	const each = 4000
	for round := range 20 {
		size := int64(1) << (round % 5)
		threads := make([][]api.Op, crowd)
		for q := range int64(each) {
			threads[0] = append(threads[0], puts(q, valueOf(q)))
			for i := 1; i < crowd; i++ {
				threads[i] = append(threads[i], []api.Op{gets(q), gathers(q, int64(i)), highests(q, q+int64(i)), theres(q)}[(q+int64(i))%4])
			}
		}
		got := slots.Free([]int64{size}, threads)
		if len(got.Order) != 0 || got.Stuck || len(got.Answers) != crowd || int64(len(got.State)) != 2*size {
			t.Fatal(len(got.Order), got.Stuck, len(got.Answers), len(got.State))
		}
		for i, list := range got.Answers {
			if len(list) != each {
				t.Fatal(i, len(list))
			}
			for k, a := range list {
				if !fits(threads[i][k], a, size) {
					t.Fatal(threads[i][k], a)
				}
			}
		}
		for slot := range size {
			q := each - 1 - (each-1-slot)%size
			if got.State[slot] != 2*(q/size) || got.State[size+slot] != valueOf(q) {
				t.Fatal(size, slot, got.State)
			}
		}
	}
}

// fits tells whether an answer is one that can be while somebody puts valueOf each sequence, in order.
func fits(o api.Op, a api.Answer, size int64) bool {
	refusal := !a.OK && len(a.List) == 0 && (a.N == int64(api.ErrNone) || a.N == int64(api.ErrLost))
	switch o.Kind {
	case opPut:
		return a.OK && a.N == 0 && len(a.List) == 0
	case opGet:
		return refusal || a.OK && a.N == valueOf(o.A) && len(a.List) == 0
	case opThere:
		return a.N == 0 && len(a.List) == 0
	case opHighest:
		return a.OK && a.N >= o.A-1 && a.N <= min(o.B, o.A+size-1) && len(a.List) == 0
	}
	for i, v := range a.List {
		if v != valueOf(o.A+int64(i)) {
			return false
		}
	}
	return refusal || a.OK && a.N == 0 && len(a.List) > 0 && int64(len(a.List)) <= min(o.B, size)
}
