package barrier_test

import (
	"runtime"
	"slices"
	"testing"

	"carillon/api"
	"carillon/barrier"
	"carillon/gate"
	"carillon/multi"
	"carillon/turn"
)

// claimed is a ring's cursor as a source.
type claimed struct{ m *multi.Multi }

func (x claimed) Load(s turn.Stepper) int64 { return x.m.Cursor(s) }

// finished is how far the reader at a gate's place has come, as a source.
type finished struct {
	g     *gate.Gate
	place int
}

func (x finished) Load(s turn.Stepper) int64 {
	n, _ := x.g.Get(s, x.place)
	return n
}

// chain is a ring of many writers, and readers of whom each stands behind the one ahead; a gate has them all. By a schedule or freely.
type chain struct {
	t       *testing.T
	m       *multi.Multi
	g       *gate.Gate
	writers int64
	each    int64
	stepped bool
	read    [][]int64
	full    []int
}

func newChain(t *testing.T, size, writers, readers int, each int64) *chain {
	m, _ := multi.New(size, 0)
	x := &chain{t: t, m: m, g: gate.New(), writers: int64(writers), each: each, read: make([][]int64, readers), full: make([]int, writers)}
	for place := range readers {
		x.g.Join(nil, place, -1)
	}
	return x
}

// rest lets others go on, where a schedule doesn't.
func (x *chain) rest() {
	if !x.stepped {
		runtime.Gosched()
	}
}

func (x *chain) write(s turn.Stepper, writer int64) {
	for i, tries := int64(0), 0; i < x.each; tries++ {
		_, err := x.m.Offer(s, x.g, writer<<32|i)
		switch {
		case err == api.OK:
			i++
		case err != api.ErrFull || tries > 1<<24:
			x.t.Error("writer", writer, "has", err, "of", i)
			return
		default:
			x.full[writer]++
			x.rest()
		}
	}
}

// barrierOf is how far a reader may go: the first one up to what is claimed, and each other one up to where the one ahead has come.
func (x *chain) barrierOf(place int) *barrier.Barrier {
	if place == 0 {
		return barrier.New(claimed{x.m})
	}
	return barrier.New(claimed{x.m}, finished{x.g, place - 1})
}

func (x *chain) readAll(s turn.Stepper, place int) {
	b := x.barrierOf(place)
	for next, tries := int64(0), 0; next < x.writers*x.each; tries++ {
		high, err := b.Wait(s, next, 1+tries%5, ways()[tries%3])
		if err == api.OK && place == 0 {
			high = x.m.Published(s, next)
		}
		if tries < 1<<24 && (err == api.ErrEmpty || place == 0 && high < next) {
			x.rest()
			continue
		}
		if err != api.OK || high < next {
			x.t.Error("reader", place, "waits for", next, "and has", high, err)
			return
		}
		for ; next <= high; next++ {
			v, err := x.m.Ring().Get(s, next)
			if err != api.OK {
				x.t.Error("reader", place, "at", next, err)
				return
			}
			x.read[place] = append(x.read[place], v)
		}
		x.g.Set(s, place, high)
	}
}

func (x *chain) threads() []func(s turn.Stepper) {
	var all []func(s turn.Stepper)
	for writer := range x.writers {
		all = append(all, func(s turn.Stepper) { x.write(s, writer) })
	}
	for place := range x.read {
		all = append(all, func(s turn.Stepper) { x.readAll(s, place) })
	}
	return all
}

// check is P3: all readers have seen the same, all of it, each writer's in its own order.
func (x *chain) check() {
	x.t.Helper()
	next := make([]int64, x.writers)
	for at, v := range x.read[0] {
		if v&(1<<32-1) != next[v>>32] {
			x.t.Fatal("at", at, "is", v)
		}
		next[v>>32]++
	}
	for place, read := range x.read {
		if !slices.Equal(read, x.read[0]) || int64(len(read)) != x.writers*x.each {
			x.t.Fatal("reader", place, "has seen", len(read))
		}
	}
}

// TestChain is P3 and P4 of readers behind readers, by schedules.
func TestChain(t *testing.T) {
	c, full := dice(7), 0
	for range 400 {
		x := newChain(t, 1<<c.Intn(4), c.between(1, 3), c.between(1, 3), 12)
		x.stepped = true
		threads := x.threads()
		_, stuck, broken := turn.Over(threads, c.schedule(0, len(threads)-1, 200), api.MostSteps)
		if stuck || slices.Contains(broken, true) {
			t.Fatal(stuck, broken)
		}
		x.check()
		for _, n := range x.full {
			full += n
		}
	}
	if full < 500 {
		t.Error(full)
	}
}

// TestFreeChain is the same of free threads.
func TestFreeChain(t *testing.T) {
	for _, size := range []struct{ size, writers, readers int }{{1, 1, 1}, {1, 2, 2}, {2, 3, 3}, {8, 3, 2}, {64, 2, 4}, {1024, 4, 3}} {
		x := newChain(t, size.size, size.writers, size.readers, 6000)
		if broken := turn.Go(x.threads()); slices.Contains(broken, true) {
			t.Error(size, broken)
		}
		x.check()
	}
}
