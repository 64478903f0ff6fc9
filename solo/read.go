package solo

import (
	"carillon/api"
	"carillon/turn"
)

// Read is P12.5: the value of the sequence behind the reader's place, which goes on to it.
func (r *Solo) Read(s turn.Stepper, reader int) (int64, api.Errno) {
	own := r.reader(reader)
	if own == nil {
		return 0, api.ErrRange
	}
	q := own.place + 1
	if r.cursor.Load(s) < q {
		return 0, api.ErrEmpty
	}
	v, err := r.ring.Get(s, q)
	if err != api.OK {
		return 0, err
	}
	own.finish(s, q)
	return v, api.OK
}

// Batch is P12.6: the values behind the reader's place, as many as are published, may be and lie there; its place goes on to the last of them.
func (r *Solo) Batch(s turn.Stepper, reader, most int) ([]int64, api.Errno) {
	own := r.reader(reader)
	if own == nil {
		return nil, api.ErrRange
	}
	place := own.place
	ahead := r.cursor.Load(s) - place
	if ahead < 1 {
		return nil, api.ErrEmpty
	}
	// Gather stops once round the ring, which is no bound here: the writer is never further ahead of a reader.
	values, err := r.ring.Gather(s, place+1, int(min(ahead, int64(max(most, 1)))))
	if err != api.OK {
		return nil, err
	}
	own.finish(s, place+int64(len(values)))
	return values, api.OK
}

// reader is nil where there is none of that number.
func (r *Solo) reader(k int) *reader {
	if k < 0 || k >= r.Readers() {
		return nil
	}
	return &r.readers[k]
}

// finish tells the writer that q's slot is wanted no more.
func (own *reader) finish(s turn.Stepper, q int64) {
	own.number.Store(s, q)
	own.place = q
}
