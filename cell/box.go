package cell

import (
	"sync/atomic"

	"carillon/turn"
)

// Box is a shared place for a value of any type.
type Box[T any] struct{ at atomic.Pointer[laid[T]] }

// laid is a value that was laid once: its address tells it from all others, the same values too. Of a type without size two addresses may be one: hence the byte.
type laid[T any] struct {
	value T
	_     byte
}

// Held is what a box's Load has found. It names the box, as what is in a zero Box has no address that would.
type Held[T any] struct {
	box *Box[T]
	in  *laid[T]
}

// NewBox makes a box that holds v.
func NewBox[T any](v T) *Box[T] {
	b := &Box[T]{}
	b.at.Store(lay(v))
	return b
}

func lay[T any](v T) *laid[T] { return &laid[T]{value: v} }

// get answers T's zero value where nothing has been laid yet.
func (l *laid[T]) get() T {
	if l == nil {
		var none T
		return none
	}
	return l.value
}

// Value is P2.4: the value that is held, without a step.
func (h Held[T]) Value() T { return h.in.get() }

// Value is P2.5: the value, without a step.
func (b *Box[T]) Value() T { return b.Load(nil).Value() }

// Load is P2.4: what is held there.
func (b *Box[T]) Load(s turn.Stepper) Held[T] {
	if b == nil {
		return Held[T]{}
	}
	return Held[T]{box: b, in: holds(s, &b.at)}
}

// Store is P2.4: v is laid.
func (b *Box[T]) Store(s turn.Stepper, v T) {
	if b == nil {
		return
	}
	step(s)
	b.at.Store(lay(v))
}

// Swap is P2.4: v is laid; the value that was there.
func (b *Box[T]) Swap(s turn.Stepper, v T) T {
	if b == nil {
		var none T
		return none
	}
	step(s)
	return b.at.Swap(lay(v)).get()
}

// Cas is P2.4: v is laid, if the very one is held there that old is; whether it was.
func (b *Box[T]) Cas(s turn.Stepper, old Held[T], v T) bool {
	if b == nil {
		return false
	}
	step(s)
	return old.box == b && b.at.CompareAndSwap(old.in, lay(v))
}
