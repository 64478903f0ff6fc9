package stack

import (
	"carillon/cell"
	"carillon/turn"
)

const (
	none     = -1
	tagShift = 32
	mostTag  = 1<<31 - 1
)

// head is one shared place, as node and tag are swapped as one.
type head struct {
	tagged bool
	word   cell.Word
}

// held is what stands in a head: the tag, and below it one more than the node's number, so that the zero head is empty.
type held int64

func newHeld(node, tag int64) held { return held(tag<<tagShift + node + 1) }

func (x held) node() int64 { return int64(x)&(1<<tagShift-1) - 1 }

func (x held) tag() int64 { return int64(x) >> tagShift }

func (x held) empty() bool { return x.node() == none }

func (h *head) load(s turn.Stepper) held { return held(h.word.Load(s)) }

// turn lays node there, if what was loaded still stands there; whether it did.
func (h *head) turn(s turn.Stepper, loaded held, node int64) bool {
	tag := int64(0)
	if h.tagged {
		tag = (loaded.tag() + 1) & mostTag
	}
	return h.word.Cas(s, int64(loaded), int64(newHeld(node, tag)))
}
