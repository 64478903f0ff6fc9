package solo

import (
	"carillon/api"
	"carillon/turn"
)

// Claim is P12.2: n sequences for the writer, of which the first is answered, if all readers have finished what stands in their slots.
func (r *Solo) Claim(s turn.Stepper, n int) (int64, api.Errno) {
	if n < 1 || n > r.Size() {
		return 0, api.ErrRange
	}
	own := &r.writer
	first, behind := own.next, own.next+int64(n)
	if behind > api.MostSequence {
		return 0, api.ErrEnd
	}
	if !r.finished(s, behind-1-int64(r.Size())) {
		return 0, api.ErrFull
	}
	own.next = behind
	return first, api.OK
}

// Put is P12.3: v is laid as q's item, which the writer has claimed and not published.
func (r *Solo) Put(s turn.Stepper, q, v int64) api.Errno {
	if !r.open(q) {
		return api.ErrRange
	}
	return r.ring.Put(s, q, v)
}

// Publish is P12.3: the readers may go up to q.
func (r *Solo) Publish(s turn.Stepper, q int64) api.Errno {
	if !r.open(q) {
		return api.ErrRange
	}
	r.cursor.Store(s, q)
	r.writer.published = q
	return api.OK
}

// Write is P12.4: the values are laid at sequences of their own and published at one time; the first of these is answered.
func (r *Solo) Write(s turn.Stepper, values ...int64) (int64, api.Errno) {
	first, err := r.Claim(s, len(values))
	if err != api.OK {
		return 0, err
	}
	for i, v := range values {
		r.Put(s, first+int64(i), v)
	}
	r.Publish(s, first+int64(len(values))-1)
	return first, api.OK
}

// finished tells whether all readers have finished q. It looks at them only where what it found the last time doesn't tell: they never go back.
func (r *Solo) finished(s turn.Stepper, q int64) bool {
	own := &r.writer
	if own.cached < q {
		own.cached = r.least(s)
	}
	return own.cached >= q
}

// least is the sequence that all readers have finished; without readers no sequence is above it.
func (r *Solo) least(s turn.Stepper) int64 {
	least := int64(api.MostSequence)
	for k := range r.readers {
		least = min(least, r.readers[k].number.Load(s))
	}
	return least
}

// open tells whether q is claimed and not published yet.
func (r *Solo) open(q int64) bool {
	return r != nil && q > r.writer.published && q < r.writer.next
}
