package multi

import (
	"carillon/api"
	"carillon/turn"
)

// Claim is P13.2: n sequences for the caller alone, of which the last is answered, if what stands in their slots is wanted no more and has been written.
func (m *Multi) Claim(s turn.Stepper, h Holder, n int64) (int64, api.Errno) {
	size := int64(m.Size())
	if n < 1 || n > size {
		return 0, api.ErrRange
	}
	for {
		c := m.cursor.Load(s)
		last := c + n
		if !good(last) {
			return 0, api.ErrEnd
		}
		if !m.finished(s, h, last-size, c) {
			return 0, api.ErrFull
		}
		if !m.written(s, c+1-size, last-size) {
			// What isn't there may also have made way for a later lap: then others have claimed meanwhile.
			if m.cursor.Load(s) == c {
				return 0, api.ErrFull
			}
			continue
		}
		if m.cursor.Cas(s, c, last) {
			return last, api.OK
		}
	}
}

// Write is P13.3: v is laid as q's item, by whoever has claimed q.
func (m *Multi) Write(s turn.Stepper, q, v int64) api.Errno { return m.Ring().Put(s, q, v) }

// Offer is P13.4: the values are laid at sequences of their own, of which the last is answered.
func (m *Multi) Offer(s turn.Stepper, h Holder, values ...int64) (int64, api.Errno) {
	n := int64(len(values))
	last, err := m.Claim(s, h, n)
	if err != api.OK {
		return 0, err
	}
	for i, v := range values {
		m.Write(s, last-n+1+int64(i), v)
	}
	return last, api.OK
}

// finished tells whether all readers that have a say have finished q. They are asked only where what was once found doesn't tell: they never go back.
func (m *Multi) finished(s turn.Stepper, h Holder, q, cursor int64) bool {
	if q <= m.seen.Load(s) {
		return true
	}
	least := cursor
	if h != nil {
		// One that joins while the others are asked begins above the cursor, and maybe behind what they tell.
		told, _ := h.Least(s, cursor)
		least = min(told, cursor)
	}
	m.seen.Store(s, least)
	return q <= least
}

// written tells whether all of these sequences are there, but for those ahead of the first one, which nobody writes.
func (m *Multi) written(s turn.Stepper, from, to int64) bool {
	for q := max(from, m.first); q <= to; q++ {
		if !m.ring.There(s, q) {
			return false
		}
	}
	return true
}
