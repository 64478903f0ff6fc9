package barrier

import (
	"math"

	"carillon/api"
	"carillon/turn"
)

// Way is how a Wait looks again and again.
type Way int

const (
	// Eager looks at the alert and at all sources in each try.
	Eager Way = 1 + iota
	// Lean looks at the alert and at one source in each try, and at no source again that was far enough.
	Lean
	// Rare is as Eager, but looks at the alert now and then only.
	Rare
)

// between is how many tries of the way Rare come to one look at the alert.
const between = 8

// Wait is P15.4: how far all sources have come, once that is q or more; an error if that isn't found within the tries.
func (b *Barrier) Wait(s turn.Stepper, q int64, tries int, way Way) (int64, api.Errno) {
	if way < Eager || way > Rare {
		return 0, api.ErrKind
	}
	if b.none() {
		return 0, api.ErrNone
	}
	tries = min(max(tries, 1), api.MostTries)
	switch way {
	case Lean:
		return b.oneByOne(s, q, tries)
	case Rare:
		return b.together(s, q, tries, between)
	default:
		return b.together(s, q, tries, 1)
	}
}

// together looks at the alert in the first try, and then in each one that is so many tries on.
func (b *Barrier) together(s turn.Stepper, q int64, tries, on int) (int64, api.Errno) {
	for try := range tries {
		if try%on == 0 && b.alert.Load(s) {
			return 0, api.ErrClosed
		}
		if least := b.Limit(s); least >= q {
			return least, api.OK
		}
	}
	return 0, api.ErrEmpty
}

// oneByOne needn't look again at who was far enough: sources only grow.
func (b *Barrier) oneByOne(s turn.Stepper, q int64, tries int) (int64, api.Errno) {
	left, least := b.sources, int64(math.MaxInt64)
	for range tries {
		if b.alert.Load(s) {
			return 0, api.ErrClosed
		}
		n := left[0].Load(s)
		if n < q {
			continue
		}
		least = min(least, n)
		if left = left[1:]; len(left) == 0 {
			return least, api.OK
		}
	}
	return 0, api.ErrEmpty
}
