package multi

import "testing"

// Seen tells what the ring's own word holds, which no call does.
func (m *Multi) Seen() int64 { return m.seen.Value() }

// SetTo lays what no run of calls would, or only a long one.
func (m *Multi) SetTo(cursor, seen int64) {
	m.cursor.Store(nil, cursor)
	m.seen.Store(nil, seen)
}

// TestReadersLeast: a run's readers tell the least of theirs, be it above none too, which a Claim wouldn't show.
func TestReadersLeast(t *testing.T) {
	for _, x := range []struct {
		words []int64
		least int64
		place int
	}{{nil, 3, -1}, {[]int64{9}, 9, 0}, {[]int64{7, 5, 5, 9}, 5, 1}, {[]int64{4, 2, -8}, -8, 2}} {
		all := make(readers, len(x.words))
		for i, n := range x.words {
			all[i].Store(nil, n)
		}
		if least, place := all.Least(nil, 3); least != x.least || place != x.place {
			t.Error(x, least, place)
		}
	}
}
