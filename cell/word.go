package cell

import (
	"math"
	"sync/atomic"

	"carillon/turn"
)

// Word is a shared number.
type Word struct{ number atomic.Int64 }

// NewWord makes a word with the number v.
func NewWord(v int64) *Word {
	w := &Word{}
	w.number.Store(v)
	return w
}

// Value is P2.5: the number, without a step.
func (w *Word) Value() int64 { return w.Load(nil) }

// Load is P2.1: the number.
func (w *Word) Load(s turn.Stepper) int64 {
	if w == nil {
		return 0
	}
	return holds(s, &w.number)
}

// Store is P2.1: v is laid.
func (w *Word) Store(s turn.Stepper, v int64) {
	if w == nil {
		return
	}
	step(s)
	w.number.Store(v)
}

// Add is P2.1: v is added; the sum.
func (w *Word) Add(s turn.Stepper, v int64) int64 {
	if w == nil {
		return 0
	}
	step(s)
	return w.number.Add(v)
}

// Swap is P2.1: v is laid; what stood there.
func (w *Word) Swap(s turn.Stepper, v int64) int64 {
	if w == nil {
		return 0
	}
	step(s)
	return w.number.Swap(v)
}

// Cas is P2.1: new is laid, if old stands there; whether it did.
func (w *Word) Cas(s turn.Stepper, old, new int64) bool {
	if w == nil {
		return false
	}
	step(s)
	return w.number.CompareAndSwap(old, new)
}

// Greatest is P2.2: the number becomes v, if it is less.
func (w *Word) Greatest(s turn.Stepper, v int64) (int64, bool) {
	return w.change(s, func(x int64) (int64, bool) { return v, x < v })
}

// Least is P2.2: the number becomes v, if it is greater.
func (w *Word) Least(s turn.Stepper, v int64) (int64, bool) {
	return w.change(s, func(x int64) (int64, bool) { return v, x > v })
}

// Bump is P2.2: v is added, if the sum is at most most and doesn't wrap.
func (w *Word) Bump(s turn.Stepper, v, most int64) (int64, bool) {
	return w.change(s, func(x int64) (int64, bool) { return x + v, fits(x, v) && x+v <= most })
}

// change lays what next makes of the number, as often as another thread comes between; where next says no, nothing is laid.
func (w *Word) change(s turn.Stepper, next func(x int64) (int64, bool)) (int64, bool) {
	// Asked here, as a nil word's Cas would fail for ever.
	if w == nil {
		return 0, false
	}
	for {
		x := w.Load(s)
		v, wanted := next(x)
		if !wanted {
			return x, false
		}
		if w.Cas(s, x, v) {
			return v, true
		}
	}
}

// fits tells whether the sum of both is an int64.
func fits(x, v int64) bool {
	if v < 0 {
		return x >= math.MinInt64-v
	}
	return x <= math.MaxInt64-v
}
