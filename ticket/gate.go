package ticket

import (
	"carillon/api"
	"carillon/cell"
	"carillon/turn"
)

const (
	nobody  = 0
	writing = -1
)

// Gate lets many readers in, or one writer. The zero one is as NewGate makes it.
type Gate struct{ word cell.Word }

// NewGate makes a gate by which nobody is in.
func NewGate() *Gate { return &Gate{} }

// ReadIn is P9.5: one reader more is in, if within the tries no writer is in and nobody comes between.
func (g *Gate) ReadIn(s turn.Stepper, tries int) bool {
	if g == nil {
		return false
	}
	for range within(tries) {
		n := g.word.Load(s)
		if n >= nobody && n < api.MostSequence && g.word.Cas(s, n, n+1) {
			return true
		}
	}
	return false
}

// ReadOut is P9.5: one reader less is in; false if there is none.
func (g *Gate) ReadOut(s turn.Stepper) bool {
	if g == nil {
		return false
	}
	for {
		n := g.word.Load(s)
		if n <= nobody {
			return false
		}
		if g.word.Cas(s, n, n-1) {
			return true
		}
	}
}

// WriteIn is P9.6: a writer is in, if within the tries nobody else is.
func (g *Gate) WriteIn(s turn.Stepper, tries int) bool {
	if g == nil {
		return false
	}
	for range within(tries) {
		if g.word.Cas(s, nobody, writing) {
			return true
		}
	}
	return false
}

// WriteOut is P9.6: the writer is out; false if there is none.
func (g *Gate) WriteOut(s turn.Stepper) bool {
	return g != nil && g.word.Cas(s, writing, nobody)
}

// Word is P9.7: how many readers are in, or -1 for a writer, without a step.
func (g *Gate) Word() int64 {
	if g == nil {
		return 0
	}
	return g.word.Value()
}
