package solo_test

import (
	"fmt"
	"math"
	"slices"
	"testing"

	"carillon/api"
	"carillon/solo"
	"carillon/turn"
)

// TestNew is P12.1: what can be, and what a new ring is like; two of them share nothing.
func TestNew(t *testing.T) {
	bad := []int{math.MinInt, -1 << 32, -65536, -2, -1, 0, 3, 5, 6, 7, 9, 12, 100, 65535, 65537, 98304, 1 << 17, 1 << 31, 1 << 32, 1<<32 + 1, 1 << 62, math.MaxInt}
	for _, size := range bad {
		for _, readers := range []int{-1, 0, 1, 64, 65} {
			if r, err := solo.New(size, readers); r != nil || err != api.ErrRange {
				t.Error(size, readers, err)
			}
		}
	}
	for size := 1; size <= api.MostSize; size *= 2 {
		for _, readers := range []int{math.MinInt, -1 << 32, -64, -1, 65, 66, 128, 1 << 32, 1<<32 + 1, math.MaxInt} {
			if r, err := solo.New(size, readers); r != nil || err != api.ErrRange {
				t.Error(size, readers, err)
			}
		}
		for readers := range api.MostReaders + 1 {
			r, err := solo.New(size, readers)
			if want := state(0, -1, slices.Repeat([]int64{-1}, readers)...); err != api.OK || r.Size() != size || r.Readers() != readers || look(r) != want {
				t.Error(size, readers, err, r.Size(), r.Readers(), look(r))
			}
		}
	}
	one, other := ring(2, 2), ring(2, 2)
	write(7, 8)(one, nil)
	read(1)(one, nil)
	if look(one) != "2 1 [-1 0]" || look(other) != "0 -1 [-1 -1]" || one.Size() != 2 || one.Readers() != 2 {
		t.Error(look(one), look(other))
	}
}

// TestExamples are the chapter's.
func TestExamples(t *testing.T) {
	r := ring(2, 1)
	check(t, r, "Write 7, 8", write(7, 8), number(0), 7, "2 1 [-1]")
	check(t, r, "Write 9", write(9), full, 1, "2 1 [-1]")
	check(t, r, "Read", read(0), number(7), 5, "2 1 [0]")
	check(t, r, "Write 9", write(9), number(2), 5, "3 2 [0]")
	check(t, r, "Batch of 9", batch(0, 9), items(8, 9), 8, "3 2 [2]")
	check(t, r, "Claim 3", claim(3), foreign, 0, "3 2 [2]")
	check(t, r, "Claim 1", claim(1), number(3), 1, "4 2 [2]")
	check(t, r, "Claim 1", claim(1), number(4), 0, "5 2 [2]")
	check(t, r, "Put at 4", put(4, 5), done, 3, "5 2 [2]")
	check(t, r, "Publish 4", publish(4), done, 1, "5 4 [2]")
	check(t, r, "Read", read(0), none, 2, "5 4 [2]")
	r = ring(1, 0)
	check(t, r, "Write 5", write(5), number(0), 4, "1 0 []")
	check(t, r, "Write 6", write(6), number(1), 4, "2 1 []")
}

// TestClaimRange is P12.2's ErrRange, also where the ring is full.
func TestClaimRange(t *testing.T) {
	for size := 1; size <= api.MostSize; size *= 2 {
		for _, readers := range []int{0, 1, 3} {
			for _, r := range []*solo.Solo{ring(size, readers), after(size, readers, claim(size))} {
				for _, n := range []int{math.MinInt, -1 << 32, -1, 0, size + 1, size + 2, 2 * size, api.MostSize + 1, 1<<32 + 1, math.MaxInt} {
					refuses(t, r, fmt.Sprint("Claim of ", n), claim(n), foreign)
				}
			}
			check(t, ring(size, readers), "Claim of all", claim(size), number(0), 0, state(int64(size), -1, slices.Repeat([]int64{-1}, readers)...))
		}
	}
}

// TestClaim is P12.2: who is looked at, and when, whatever is asked for behind whatever was claimed and read.
func TestClaim(t *testing.T) {
	for _, size := range []int{1, 2, 4, 8} {
		for first := 1; first <= size; first++ {
			for place := -1; place < first; place++ {
				for n := 1; n <= size; n++ {
					r := after(size, 3, write(counted(0, first)...), batch(0, first), batch(2, first))
					if place >= 0 {
						batch(1, place+1)(r, nil)
					}
					want, steps, next := number(int64(first)), 0, first+n
					if first+n-1-size > -1 {
						steps = 3
					}
					if first+n-1-size > place {
						want, next = full, first
					}
					check(t, r, fmt.Sprint("Claim of ", n, " of ", size, " behind ", place), claim(n), want, steps, state(int64(next), int64(first)-1, int64(first)-1, int64(place), int64(first)-1))
				}
			}
		}
	}
}

// TestClaimCached: what was found is kept, also where it wasn't enough, and is looked for anew only where it isn't.
func TestClaimCached(t *testing.T) {
	r := after(4, 2, write(1, 2, 3, 4), batch(0, 2), batch(1, 3))
	check(t, r, "Claim 4", claim(4), full, 2, "4 3 [1 2]")
	check(t, r, "Claim 2", claim(2), number(4), 0, "6 3 [1 2]")
	check(t, r, "Claim 1", claim(1), full, 2, "6 3 [1 2]")
	read(0)(r, nil)
	check(t, r, "Claim 2", claim(2), full, 2, "6 3 [2 2]")
	check(t, r, "Claim 1", claim(1), number(6), 0, "7 3 [2 2]")
	batch(0, 9)(r, nil)
	batch(1, 9)(r, nil)
	check(t, r, "Claim 5", claim(5), foreign, 0, "7 3 [3 3]")
	check(t, r, "Claim 2", claim(2), full, 2, "7 3 [3 3]")
	check(t, r, "Claim 1", claim(1), number(7), 0, "8 3 [3 3]")
	check(t, r, "Claim 1", claim(1), full, 2, "8 3 [3 3]")

	// The least of them counts, wherever it stands, and all are looked at.
	for behind := range 5 {
		r = after(2, 5, write(1, 2))
		for k := range 5 {
			if k != behind {
				batch(k, 2)(r, nil)
			}
		}
		before := look(r)
		check(t, r, fmt.Sprint("Claim, behind is ", behind), claim(1), full, 5, before)
		check(t, r, fmt.Sprint("Write, behind is ", behind), write(3), full, 5, before)
		read(behind)(r, nil)
		if got := claim(2)(r, nil); !same(got, full) {
			t.Error(behind, got)
		}
		if got := claim(1)(r, turn.NewCounter(0)); !same(got, number(2)) {
			t.Error(behind, got)
		}
	}

	// Without readers nobody is looked at, however far it goes.
	r = ring(2, 0)
	for q := range int64(50) {
		check(t, r, "Claim 1", claim(1), number(2*q), 0, state(2*q+1, -1))
		check(t, r, "Claim 1", claim(1), number(2*q+1), 0, state(2*q+2, -1))
	}
	// With the most of them all are.
	r = after(1, api.MostReaders, write(5))
	check(t, r, "Claim of the most readers", claim(1), full, api.MostReaders, look(r))
}

// TestOpen is P12.3: what may be put and published, whatever is claimed and published ahead of that.
func TestOpen(t *testing.T) {
	for _, size := range []int{1, 2, 4, 8} {
		for claimed := range size + 1 {
			for published := -1; published < claimed; published++ {
				begin := func() *solo.Solo {
					r := after(size, 1, claim(claimed))
					if published >= 0 {
						publish(int64(published))(r, nil)
					}
					return r
				}
				before := state(int64(claimed), int64(published), -1)
				for q := int64(-3); q < int64(2*size+3); q++ {
					name := fmt.Sprintf("%d of %d, claimed %d, published %d", q, size, claimed, published)
					if q <= int64(published) || q >= int64(claimed) {
						refuses(t, begin(), "Put at "+name, put(q, 5), foreign)
						refuses(t, begin(), "Publish of "+name, publish(q), foreign)
						continue
					}
					r := begin()
					check(t, r, "Put at "+name, put(q, 5), done, 3, before)
					check(t, r, "Put again at "+name, put(q, 6), done, 3, before)
					check(t, r, "Publish of "+name, publish(q), done, 1, state(int64(claimed), q, -1))
					refuses(t, r, "Put behind at "+name, put(q, 7), foreign)
					refuses(t, r, "Publish again of "+name, publish(q), foreign)
				}
				for _, q := range []int64{math.MinInt64, math.MinInt64 + 1, -1 << 62, -1 << 32, -1, 1 << 31, 1 << 32, end - 1, end, math.MaxInt64} {
					refuses(t, begin(), fmt.Sprint("Put at ", q), put(q, 5), foreign)
					refuses(t, begin(), fmt.Sprint("Publish of ", q), publish(q), foreign)
				}
			}
		}
	}
}

// TestPut is P12.3 of the values: what was put last at a sequence is what the readers find there, in whatever order it was put.
func TestPut(t *testing.T) {
	for _, v := range []int64{0, 1, -1, math.MinInt64, math.MaxInt64} {
		r := after(4, 1, claim(3), put(2, 9), put(0, v), put(1, 8), put(2, v), publish(2))
		check(t, r, "Batch", batch(0, 9), items(v, 8, v), 11, "3 2 [2]")
	}
	r := after(2, 2, claim(2), put(1, 6), put(0, 5), publish(0))
	check(t, r, "Batch of what is published", batch(0, 9), items(5), 5, "2 0 [0 -1]")
	check(t, r, "Read of what isn't", read(0), empty, 1, "2 0 [0 -1]")
	put(1, 7)(r, nil)
	publish(1)(r, nil)
	check(t, r, "Read of it then", read(0), number(7), 5, "2 1 [1 -1]")
	check(t, r, "Batch of the other reader", batch(1, 9), items(5, 7), 8, "2 1 [1 1]")
}

// TestWrite is P12.4.
func TestWrite(t *testing.T) {
	for size := 1; size <= 1<<8; size *= 2 {
		for _, readers := range []int{0, 1, 3} {
			numbers := slices.Repeat([]int64{-1}, readers)
			r := ring(size, readers)
			refuses(t, r, "Write of none", write(), foreign)
			refuses(t, r, "Write of too many", write(make([]int64, size+1)...), foreign)
			refuses(t, r, "Write of far too many", write(make([]int64, 3*size+5)...), foreign)
			check(t, r, "Write of all", write(counted(0, size)...), number(0), 3*size+1, state(int64(size), int64(size)-1, numbers...))
			refuses(t, r, "Write of none in a full one", write(), foreign)
			refuses(t, r, "Write of too many into a full one", write(make([]int64, size+1)...), foreign)
			if readers > 0 {
				check(t, r, "Write into a full one", write(5), full, readers, state(int64(size), int64(size)-1, numbers...))
			}
			for k := range readers {
				check(t, r, "Batch", batch(k, size), items(counted(0, size)...), 3*size+2, look(after(size, readers, batchesUpTo(size, k)...)))
			}
			check(t, r, "Write of all again", write(counted(int64(size), size)...), number(int64(size)), readers+3*size+1, state(int64(2*size), int64(2*size)-1, slices.Repeat([]int64{int64(size) - 1}, readers)...))
		}
	}
}

// batchesUpTo is a Write of all slots, and a Batch of them of each reader up to k.
func batchesUpTo(size, k int) []call {
	calls := []call{write(counted(0, size)...)}
	for i := range k + 1 {
		calls = append(calls, batch(i, size))
	}
	return calls
}

// TestWriteBehindClaims: what was claimed ahead of a Write is published by it, put or not.
func TestWriteBehindClaims(t *testing.T) {
	r := after(4, 1, claim(2), put(1, 6), put(0, 5))
	check(t, r, "Write", write(7), number(2), 4, "3 2 [-1]")
	refuses(t, r, "Put at the last that was claimed ahead", put(1, 9), foreign)
	refuses(t, r, "Publish of it", publish(1), foreign)
	check(t, r, "Batch", batch(0, 9), items(5, 6, 7), 11, "3 2 [2]")

	r = after(4, 2, claim(2), put(0, 5))
	check(t, r, "Write", write(7, 8), number(2), 7, "4 3 [-1 -1]")
	check(t, r, "Batch up to the hole", batch(0, 9), items(5), 6, "4 3 [0 -1]")
	for range 3 {
		check(t, r, "Read of the hole", read(0), none, 2, "4 3 [0 -1]")
		check(t, r, "Batch of the hole", batch(0, 9), none, 2, "4 3 [0 -1]")
	}
	check(t, r, "Read ahead of the hole", read(1), number(5), 5, "4 3 [0 0]")
	check(t, r, "Write", write(9), number(4), 6, "5 4 [0 0]")
	check(t, r, "Write behind the hole", write(9), full, 2, "5 4 [0 0]")
}

// TestReadersRange is P12.5's and P12.6's ErrRange.
func TestReadersRange(t *testing.T) {
	for _, readers := range []int{0, 1, 2, 5, api.MostReaders} {
		for _, r := range []*solo.Solo{ring(2, readers), after(2, readers, write(5, 6))} {
			for _, k := range []int{math.MinInt, -1 << 32, -2, -1, readers, readers + 1, 64, 65, 1 << 32, math.MaxInt} {
				if k >= 0 && k < readers {
					continue
				}
				refuses(t, r, fmt.Sprint("Read of ", k), read(k), foreign)
				for _, most := range []int{math.MinInt, -1, 0, 1, 5, math.MaxInt} {
					refuses(t, r, fmt.Sprint("Batch of ", k), batch(k, most), foreign)
				}
			}
		}
	}
}

// TestRead is P12.5: one at a time, each reader for itself.
func TestRead(t *testing.T) {
	r := ring(4, 3)
	for k := range 3 {
		check(t, r, "Read of nothing", read(k), empty, 1, "0 -1 [-1 -1 -1]")
	}
	write(5, 6, 7)(r, nil)
	check(t, r, "Read", read(1), number(5), 5, "3 2 [-1 0 -1]")
	check(t, r, "Read", read(1), number(6), 5, "3 2 [-1 1 -1]")
	check(t, r, "Read", read(2), number(5), 5, "3 2 [-1 1 0]")
	check(t, r, "Read", read(1), number(7), 5, "3 2 [-1 2 0]")
	check(t, r, "Read of no more", read(1), empty, 1, "3 2 [-1 2 0]")
	check(t, r, "Read", read(0), number(5), 5, "3 2 [0 2 0]")
	write(8, 9)(r, nil)
	check(t, r, "Read", read(1), number(8), 5, "5 4 [0 3 0]")
	// From lap to lap.
	for _, size := range []int{1, 2, 8, 64} {
		r := ring(size, 1)
		for q := range int64(5*size + 3) {
			if got := write(valueOf(q))(r, nil); !same(got, number(q)) {
				t.Fatal(size, q, got)
			}
			check(t, r, "Read", read(0), number(valueOf(q)), 5, state(q+1, q, q))
			check(t, r, "Read of no more", read(0), empty, 1, state(q+1, q, q))
		}
	}
	for _, v := range []int64{0, -1, int64(api.ErrNone), math.MinInt64, math.MaxInt64} {
		check(t, after(1, 1, write(v)), "Read", read(0), number(v), 5, "1 0 [0]")
	}
}

// TestBatch is P12.6: how many there are, may be, and lie there, from any place on.
func TestBatch(t *testing.T) {
	for _, size := range []int{1, 2, 4, 8} {
		for place := -1; place < 2*size; place++ {
			for ahead := range size + 1 {
				for _, most := range []int{math.MinInt, -1 << 32, -1, 0, 1, 2, 3, size - 1, size, size + 1, 1 << 32, math.MaxInt} {
					r := ring(size, 1)
					for q := range int64(place + 1) {
						write(valueOf(q))(r, nil)
						read(0)(r, nil)
					}
					from := int64(place + 1)
					write(counted(from, ahead)...)(r, nil)
					n := min(ahead, max(most, 1))
					want, steps := items(counted(from, n)...), 3*n+2
					if ahead == 0 {
						want, steps = empty, 1
					}
					next := from + int64(ahead)
					check(t, r, fmt.Sprint("Batch of ", most, " of ", ahead), batch(0, most), want, steps, state(next, next-1, from+int64(n)-1))
				}
			}
		}
	}
}

// TestBatchHoles is P12.6 where some that are published were never put.
func TestBatchHoles(t *testing.T) {
	for _, lap := range []int64{0, 1, 5} {
		for put := range 1 << 4 {
			for most := range 6 {
				r := ring(4, 1)
				for range lap {
					write(1, 2, 3, 4)(r, nil)
					batch(0, 4)(r, nil)
				}
				first, n := 4*lap, 0
				r.Claim(nil, 4)
				for i := range int64(4) {
					if put>>i&1 != 0 {
						r.Put(nil, first+i, valueOf(first+i))
					}
				}
				r.Publish(nil, first+3)
				for n < min(4, max(most, 1)) && put>>n&1 != 0 {
					n++
				}
				want, steps := items(counted(first, n)...), 3*n+2
				switch {
				case n == 0:
					want, steps = none, 2
				case n < min(4, max(most, 1)):
					steps++
				}
				check(t, r, fmt.Sprintf("Batch of %d, put is %04b", most, put), batch(0, most), want, steps, state(first+4, first+3, first+int64(n)-1))
			}
		}
	}
}

// TestGreatRing: the greatest ring is filled and emptied at once.
func TestGreatRing(t *testing.T) {
	const size = api.MostSize
	r := after(size, 2, write(1, 2, 3), batch(0, 3), batch(1, 3))
	check(t, r, "Write", write(counted(3, size)...), number(3), 2+3*size+1, state(size+3, size+2, 2, 2))
	check(t, r, "Write into a full one", write(1), full, 2, state(size+3, size+2, 2, 2))
	check(t, r, "Batch", batch(1, math.MaxInt), items(counted(3, size)...), 3*size+2, state(size+3, size+2, 2, size+2))
	check(t, r, "Batch of all but one", batch(0, size-1), items(counted(3, size-1)...), 3*size-1, state(size+3, size+2, size+1, size+2))
	check(t, r, "Write", write(counted(size+3, size-1)...), number(size+3), 2+3*(size-1)+1, state(2*size+2, 2*size+1, size+1, size+2))
}

// TestNone is P12.9: a nil and the zero Solo have no slots, no readers, and refuse all.
func TestNone(t *testing.T) {
	some := []int64{math.MinInt64, -1 << 32, -2, -1, 0, 1, 2, 64, 65536, 1 << 32, end - 1, end, math.MaxInt64}
	for name, r := range map[string]*solo.Solo{"nil": nil, "zero": {}} {
		if r.Size() != 0 || r.Readers() != 0 || look(r) != "0 0 []" {
			t.Error(name, r.Size(), r.Readers(), look(r))
		}
		for _, n := range some {
			refuses(t, r, "Claim of "+name, claim(int(n)), foreign)
			refuses(t, r, "Publish of "+name, publish(n), foreign)
			refuses(t, r, "Read of "+name, read(int(n)), foreign)
			for _, m := range some {
				refuses(t, r, "Put of "+name, put(n, m), foreign)
				refuses(t, r, "Batch of "+name, batch(int(n), int(m)), foreign)
			}
		}
		for n := range 5 {
			refuses(t, r, "Write of "+name, write(make([]int64, n)...), foreign)
		}
	}
}

// TestMemory: what is handed in stays as it is and isn't kept, and no answer shares memory with another one, or with the ring.
func TestMemory(t *testing.T) {
	r := ring(4, 2)
	values := []int64{5, 6, 7, 77, 78}
	if got := write(values[:3]...)(r, nil); !same(got, number(0)) || !slices.Equal(values, []int64{5, 6, 7, 77, 78}) {
		t.Error(got, values)
	}
	scribble(values)
	first, _ := r.Batch(nil, 0, 9)
	_, _, numbers := r.State()
	if !slices.Equal(first, []int64{5, 6, 7}) || !slices.Equal(numbers, []int64{2, -1}) {
		t.Error(first, numbers)
	}
	scribble(first)
	scribble(numbers)
	second, _ := r.Batch(nil, 1, 9)
	_, _, numbers = r.State()
	write(8, 9)(r, nil)
	read(0)(r, nil)
	if !slices.Equal(second, []int64{5, 6, 7}) || !slices.Equal(numbers, []int64{2, 2}) || look(r) != "5 4 [3 2]" {
		t.Error("an answer changes with the ring", second, numbers, look(r))
	}
	scribble(second)
	check(t, r, "Batch", batch(1, 9), items(8, 9), 8, "5 4 [3 4]")
}
