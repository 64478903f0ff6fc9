package queue

import (
	"sync/atomic"

	"carillon/turn"
)

// box is never used again: a place that looks the same as before has not held another one in between.
type box struct {
	value int64
	next  place
}

// place is a shared place for a box, or for none.
type place struct{ at atomic.Pointer[box] }

func (p *place) load(s turn.Stepper) *box {
	step(s)
	return p.at.Load()
}

// move lays to there, if from still stands there; whether it did.
func (p *place) move(s turn.Stepper, from, to *box) bool {
	step(s)
	return p.at.CompareAndSwap(from, to)
}

// behind is the values of the boxes behind b, for a thread that is alone.
func (b *box) behind() []int64 {
	var all []int64
	for n := b.next.load(nil); n != nil; n = n.next.load(nil) {
		all = append(all, n.value)
	}
	return all
}

// step asks for the turn, where there is somebody to be asked.
func step(s turn.Stepper) {
	if s != nil {
		s.Step()
	}
}
