package solo

import (
	"slices"
	"testing"

	"carillon/api"
	"carillon/turn"
)

// far is a ring all of whose sequences below next were written and read, to which no test can count.
func far(size, readers int, next int64) *Solo {
	r, _ := New(size, readers)
	r.writer = writer{next: next, published: next - 1, cached: next - 1}
	r.cursor.Store(nil, next-1)
	for k := range r.readers {
		r.readers[k].number.Store(nil, next-1)
		r.readers[k].place = next - 1
	}
	return r
}

// refused tells whether a Claim and a Write of so many answer that, without a step, and change nothing.
func refused(r *Solo, n int, want api.Errno) bool {
	before, c := r.writer, turn.NewCounter(0)
	q, err := r.Claim(c, n)
	w, wrong := r.Write(c, make([]int64, n)...)
	return q == 0 && w == 0 && err == want && wrong == want && r.writer == before
}

// TestEnd is P12.2's ErrEnd: no sequence is claimed from MostSequence on, but all up to there.
func TestEnd(t *testing.T) {
	for _, readers := range []int{0, 1, 3} {
		for _, size := range []int{1, 2, 4, 64} {
			for left := range size + 1 {
				r := far(size, readers, api.MostSequence-int64(left))
				for n := left + 1; n <= size; n++ {
					if !refused(r, n, api.ErrEnd) {
						t.Error(readers, size, left, n)
					}
				}
				if !refused(r, size+1, api.ErrRange) || !refused(r, 0, api.ErrRange) {
					t.Error(readers, size, left, "what is out of its range")
				}
				if left > 0 {
					fillUp(t, r, left)
				}
			}
		}
	}
}

// fillUp writes all that are left, and reads them.
func fillUp(t *testing.T, r *Solo, left int) {
	t.Helper()
	var values []int64
	for i := range int64(left) {
		values = append(values, 5+i)
	}
	first, err := r.Write(nil, values...)
	if next, cursor, _ := r.State(); first != api.MostSequence-int64(left) || err != api.OK || next != api.MostSequence || cursor != api.MostSequence-1 {
		t.Error(first, err, next, cursor)
	}
	if !refused(r, 1, api.ErrEnd) {
		t.Error("behind the last")
	}
	for k := range r.Readers() {
		if got, err := r.Batch(nil, k, left+1); !slices.Equal(got, values) || err != api.OK {
			t.Error(k, got, err)
		}
		if _, err := r.Read(nil, k); err != api.ErrEmpty {
			t.Error(k, err)
		}
	}
	if !refused(r, 1, api.ErrEnd) {
		t.Error("behind the last, read")
	}
}

// TestEndBeforeFull: where sequences would pass the end, the readers aren't looked at.
func TestEndBeforeFull(t *testing.T) {
	r := far(4, 2, api.MostSequence-4)
	if _, err := r.Write(nil, 1, 2, 3, 4); err != api.OK {
		t.Error(err)
	}
	if !refused(r, 1, api.ErrEnd) || !refused(r, 4, api.ErrEnd) || !refused(r, 5, api.ErrRange) {
		t.Error("full and at the end")
	}
	r = far(4, 2, api.MostSequence-5)
	c := turn.NewCounter(99)
	if _, err := r.Write(nil, 1, 2, 3, 4); err != api.OK {
		t.Error(err)
	}
	if _, err := r.Claim(c, 1); err != api.ErrFull || c.Steps() != 2 || !refused(r, 2, api.ErrEnd) {
		t.Error(err, c.Steps())
	}
}
