package epoch

import "testing"

// TestKept: things that were collected take no room any more.
func TestKept(t *testing.T) {
	const many = 10000
	d, _ := New(1)
	for _, left := range []int{0, 1, 5} {
		for range many {
			d.Retire(nil, 0, 7)
		}
		d.Advance(nil, 0)
		for range left {
			d.Retire(nil, 0, 8)
		}
		d.Advance(nil, 0)
		if got, _ := d.Collect(nil, 0); len(got) < many || len(d.Waiting(0)) != left {
			t.Error(left, len(got), len(d.Waiting(0)))
		}
		if n := cap(d.members[0].things); n > 2*left+8 {
			t.Error("there is room for", n)
		}
	}
}
