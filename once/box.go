package once

import (
	"sync/atomic"

	"carillon/turn"
)

// Box is a cell for a value of any type that is set once.
type Box[T any] struct{ at atomic.Pointer[T] }

// NewBox makes a box that is empty.
func NewBox[T any]() *Box[T] { return &Box[T]{} }

// Set is P3.5: v is laid, if the box is empty; what is in it then, and whether v was laid.
func (b *Box[T]) Set(s turn.Stepper, v T) (T, bool) {
	if b == nil {
		return zero[T]()
	}
	step(s)
	if b.at.CompareAndSwap(nil, &v) {
		return v, true
	}
	there, _ := b.Get(s)
	return there, false
}

// Get is P3.5: what is in the box, and whether there is anything.
func (b *Box[T]) Get(s turn.Stepper) (T, bool) {
	if b == nil {
		return zero[T]()
	}
	step(s)
	at := b.at.Load()
	if at == nil {
		return zero[T]()
	}
	return *at, true
}

// zero is the answer where there is nothing.
func zero[T any]() (T, bool) {
	var none T
	return none, false
}

// step asks for the turn, where there is somebody to be asked.
func step(s turn.Stepper) {
	if s != nil {
		s.Step()
	}
}
