package stack

import (
	"slices"
	"testing"
)

// TestTagGoesRound is the words' 'behind 2^31 - 1 comes 0', of both heads, at nodes and at none.
func TestTagGoesRound(t *testing.T) {
	k := New(2, true)
	k.head.word.Store(nil, int64(newHeld(none, mostTag)))
	k.free.word.Store(nil, int64(newHeld(0, mostTag-1)))
	for i, want := range [][]int64{
		{none, mostTag, 0, mostTag - 1}, // behind no call yet
		{0, 0, 1, mostTag},              // Push
		{1, 1, none, 0},                 // Push
		{0, 2, 1, 1},                    // Pop
	} {
		switch i {
		case 1, 2:
			k.Push(nil, int64(10*i))
		case 3:
			if v, ok := k.Pop(nil); v != 20 || !ok {
				t.Error(v, ok)
			}
		}
		head, tag, free, freeTag := k.Heads()
		if got := []int64{head, tag, free, freeTag}; !slices.Equal(got, want) {
			t.Errorf("%d: %v, want %v", i, got, want)
		}
	}
	k.head.word.Store(nil, int64(newHeld(0, mostTag)))
	if v, ok := k.Pop(nil); v != 10 || !ok || k.head.load(nil) != newHeld(none, 0) {
		t.Error(v, ok, k.head.load(nil))
	}
}

// TestTagTells: a head that holds the same node with another tag is another one, and so is one with the same tag and another node.
func TestTagTells(t *testing.T) {
	for _, tag := range []int64{0, 1, 7, mostTag - 1, mostTag} {
		for _, node := range []int64{none, 0, 1, 65535} {
			x := newHeld(node, tag)
			if x.node() != node || x.tag() != tag || x.empty() != (node == none) || x < 0 {
				t.Error(node, tag, x)
			}
			h := &head{tagged: true}
			h.word.Store(nil, int64(x))
			if h.turn(nil, newHeld(node, tag^1), 5) || h.turn(nil, newHeld(node+1, tag), 5) || h.load(nil) != x {
				t.Error(node, tag, "turned from what isn't there")
			}
			if !h.turn(nil, x, node) || h.load(nil) == x || h.load(nil).node() != node || h.load(nil).tag() != (tag+1)%(1<<31) {
				t.Error(node, tag, h.load(nil))
			}
		}
	}
}

// TestUntaggedIsAlike: without tags a head that looks the same is taken for the same.
func TestUntaggedIsAlike(t *testing.T) {
	h := &head{}
	h.word.Store(nil, int64(newHeld(3, 0)))
	loaded := h.load(nil)
	if !h.turn(nil, loaded, 4) || !h.turn(nil, h.load(nil), 3) || h.load(nil) != loaded || !h.turn(nil, loaded, none) || h.load(nil) != 0 {
		t.Error(h.load(nil))
	}
}
