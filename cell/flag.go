package cell

import (
	"sync/atomic"

	"carillon/turn"
)

// Flag is a shared yes or no.
type Flag struct{ yes atomic.Bool }

// NewFlag makes a flag that is v.
func NewFlag(v bool) *Flag {
	f := &Flag{}
	f.yes.Store(v)
	return f
}

// Value is P2.5: the flag, without a step.
func (f *Flag) Value() bool { return f.Load(nil) }

// Load is P2.3: the flag.
func (f *Flag) Load(s turn.Stepper) bool {
	if f == nil {
		return false
	}
	return holds(s, &f.yes)
}

// Set is P2.3: the flag becomes yes; whether it was no.
func (f *Flag) Set(s turn.Stepper) bool {
	if f == nil {
		return false
	}
	step(s)
	return !f.yes.Swap(true)
}

// Clear is P2.3: the flag becomes no; whether it was yes.
func (f *Flag) Clear(s turn.Stepper) bool {
	if f == nil {
		return false
	}
	step(s)
	return f.yes.Swap(false)
}
