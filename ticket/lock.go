package ticket

import (
	"carillon/cell"
	"carillon/turn"
)

// Lock lets one in at a time, in the order in which the tickets were drawn. The zero one is as New makes it.
type Lock struct{ next, serving cell.Word }

// New makes a lock of which no ticket is drawn.
func New() *Lock { return &Lock{} }

// Draw is P9.1: the next ticket.
func (l *Lock) Draw(s turn.Stepper) int64 {
	// Asked here, as the number ahead of a nil word's 0 would be -1.
	if l == nil {
		return 0
	}
	return l.next.Add(s, 1) - 1
}

// Called is P9.2: whether the ticket is called up within the tries.
func (l *Lock) Called(s turn.Stepper, ticket int64, tries int) bool {
	if l == nil {
		return false
	}
	for range within(tries) {
		if l.serving.Load(s) == ticket {
			return true
		}
	}
	return false
}

// Leave is P9.3: the ticket behind this one is called up, if this one is.
func (l *Lock) Leave(s turn.Stepper, ticket int64) bool {
	return l != nil && l.serving.Cas(s, ticket, ticket+1)
}

// Try is P9.4: a ticket that is called up already, if there is one within the tries.
func (l *Lock) Try(s turn.Stepper, tries int) (int64, bool) {
	if l == nil {
		return 0, false
	}
	for range within(tries) {
		ticket := l.serving.Load(s)
		if l.next.Cas(s, ticket, ticket+1) {
			return ticket, true
		}
	}
	return 0, false
}

// Numbers is P9.7: the ticket that is drawn next, and the one that is called up, without a step.
func (l *Lock) Numbers() (next, serving int64) {
	if l == nil {
		return 0, 0
	}
	return l.next.Value(), l.serving.Value()
}
