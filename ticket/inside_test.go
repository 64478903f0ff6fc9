package ticket_test

import (
	"runtime"
	"slices"
	"sync/atomic"
	"testing"

	"carillon/cell"
	"carillon/ticket"
	"carillon/turn"
)

// inside is a lock and who is in by it, in a run by a schedule, where one thread runs at a time: from the step that let it in up to its Leave.
type inside struct {
	lock   *ticket.Lock
	other  cell.Word
	now    int
	most   int
	order  []int64
	waited int
	failed int
}

func (in *inside) byDraw(s turn.Stepper) {
	n := in.lock.Draw(s)
	for !in.lock.Called(s, n, 2) {
		in.waited++
	}
	in.pass(s, n)
}

func (in *inside) byTry(s turn.Stepper) {
	n, ok := in.lock.Try(s, 2)
	for !ok {
		in.failed++
		n, ok = in.lock.Try(s, 2)
	}
	in.pass(s, n)
}

func (in *inside) pass(s turn.Stepper, n int64) {
	in.now++
	in.most = max(in.most, in.now)
	in.order = append(in.order, n)
	in.other.Load(s)
	if !in.lock.Leave(s, n) {
		in.most = -1
	}
	in.now--
}

// TestOneIsIn is P9.8 of a lock, by schedules: whether they draw or try, one is in at a time, and in the order of the tickets.
func TestOneIsIn(t *testing.T) {
	c, waited, failed := dice(11), 0, 0
	for range 3000 {
		in := &inside{lock: ticket.New()}
		var threads []func(s turn.Stepper)
		for range 4 {
			ways := []func(s turn.Stepper){in.byDraw, in.byTry}
			threads = append(threads, func(s turn.Stepper) {
				for _, way := range []int{c.Intn(2), c.Intn(2)} {
					ways[way](s)
				}
			})
		}
		_, stuck, broken := turn.Over(threads, c.schedule(0, 3, 40), 5000)
		next, serving := in.lock.Numbers()
		if stuck || slices.Contains(broken, true) || in.most != 1 || in.now != 0 || next != 8 || serving != 8 {
			t.Fatal(stuck, broken, in.most, in.now, next, serving)
		}
		if !slices.Equal(in.order, []int64{0, 1, 2, 3, 4, 5, 6, 7}) {
			t.Fatal(in.order)
		}
		waited, failed = waited+in.waited, failed+in.failed
	}
	if waited == 0 || failed == 0 {
		t.Error(waited, failed)
	}
}

// within is a gate and who is in by it, in a run by a schedule.
type within struct {
	gate    *ticket.Gate
	other   cell.Word
	readers int
	writers int
	most    int
	lost    bool
}

// come tells who is in behind a step.
func (in *within) come(readers, writers int) {
	in.readers, in.writers = in.readers+readers, in.writers+writers
	in.most = max(in.most, in.readers)
	word := int64(in.readers)
	if in.writers > 0 {
		word = -1
	}
	in.lost = in.lost || in.writers > 1 || in.writers > 0 && in.readers > 0 || in.gate.Word() != word
}

func (in *within) read(s turn.Stepper) {
	if !in.gate.ReadIn(s, 2) {
		return
	}
	in.come(1, 0)
	in.other.Load(s)
	in.lost = !in.gate.ReadOut(s) || in.lost
	in.come(-1, 0)
}

func (in *within) write(s turn.Stepper) {
	if !in.gate.WriteIn(s, 2) {
		return
	}
	in.come(0, 1)
	in.other.Load(s)
	in.lost = !in.gate.WriteOut(s) || in.lost
	in.come(0, -1)
}

// TestWriterIsAlone is P9.8 of a gate, by schedules: while a writer is in nobody else is, and readers may be together.
func TestWriterIsAlone(t *testing.T) {
	c, most := dice(12), 0
	for range 3000 {
		in := &within{gate: ticket.NewGate()}
		var threads []func(s turn.Stepper)
		for range 4 {
			ways := []func(s turn.Stepper){in.read, in.read, in.write}
			threads = append(threads, func(s turn.Stepper) {
				for range 3 {
					ways[c.Intn(3)](s)
				}
			})
		}
		if _, stuck, broken := turn.Over(threads, c.schedule(0, 3, 40), 5000); stuck || slices.Contains(broken, true) || in.lost || in.gate.Word() != 0 {
			t.Fatal(stuck, broken, in)
		}
		most = max(most, in.most)
	}
	if most != 4 {
		t.Error("together are", most)
	}
}

// comesIn tries again and again; false where that has no end, so that a lock that is shut fails the test.
func comesIn(try func() bool) bool {
	for range 1 << 24 {
		if try() {
			return true
		}
		runtime.Gosched()
	}
	return false
}

// entry is a ticket, and whether it is called up, asked again and again.
func entry(l *ticket.Lock, byDraw bool) (n int64, ok bool) {
	if byDraw {
		n = l.Draw(nil)
		return n, comesIn(func() bool { return l.Called(nil, n, 50) })
	}
	ok = comesIn(func() bool {
		var in bool
		n, in = l.Try(nil, 50)
		return in
	})
	return n, ok
}

// TestFreeLock is P9.8 of free threads: what only who is in does needs no other lock, and the tickets come in order.
func TestFreeLock(t *testing.T) {
	const each = 2000
	l, order := ticket.New(), []int64(nil)
	together(func(thread int) {
		for i := range each {
			n, ok := entry(l, (thread+i)%2 == 0)
			if !ok {
				t.Error("never in")
				return
			}
			order = append(order, n)
			if !l.Leave(nil, n) {
				t.Error("left already", n)
			}
		}
	})
	if next, serving := l.Numbers(); next != crowd*each || serving != next || len(order) != crowd*each {
		t.Fatal(next, serving, len(order))
	}
	for i, n := range order {
		if n != int64(i) {
			t.Fatal(i, n)
		}
	}
}

// TestFreeTickets is P6: each ticket is drawn by one, and left by one.
func TestFreeTickets(t *testing.T) {
	const each = 20000
	l := ticket.New()
	var drawn [crowd][]int64
	var left [crowd]int64
	together(func(thread int) {
		for i := range int64(each) {
			drawn[thread] = append(drawn[thread], l.Draw(nil))
			if l.Leave(nil, i) {
				left[thread]++
			}
		}
	})
	all := slices.Concat(drawn[:]...)
	slices.Sort(all)
	for i, n := range all {
		if n != int64(i) {
			t.Fatal(i, n)
		}
	}
	total := int64(0)
	for thread, n := range left {
		total += n
		if !slices.IsSorted(drawn[thread]) {
			t.Error(thread, "draws out of order")
		}
	}
	if next, serving := l.Numbers(); next != crowd*each || serving != total || total == 0 {
		t.Error(next, serving, left)
	}
}

// TestFreeGate is P9.8 of free threads: what writers do needs no other lock, and readers see nothing of what is half done.
func TestFreeGate(t *testing.T) {
	const each = 5000
	g := ticket.NewGate()
	var one, two int64
	var written, read atomic.Int64
	together(func(thread int) {
		for i := range each {
			if (thread+i)%4 == 0 {
				if g.WriteIn(nil, 200) {
					one++
					two += 2
					written.Add(1)
					if !g.WriteOut(nil) {
						t.Error("out already")
					}
				}
			} else if g.ReadIn(nil, 200) {
				if two != 2*one {
					t.Error(one, two)
				}
				read.Add(1)
				if !g.ReadOut(nil) {
					t.Error("out already")
				}
			}
		}
	})
	if n := written.Load(); g.Word() != 0 || one != n || two != 2*n || n == 0 || read.Load() == 0 {
		t.Error(g.Word(), one, two, n, read.Load())
	}
}

// TestFreeReadOuts: as many go out as came in, and no more.
func TestFreeReadOuts(t *testing.T) {
	const each = 5000
	g := ticket.NewGate()
	var in, out atomic.Int64
	together(func(thread int) {
		for i := range each {
			if (thread+i)%2 == 0 && g.ReadIn(nil, 3) {
				in.Add(1)
			} else if g.ReadOut(nil) {
				out.Add(1)
			}
		}
	})
	if g.Word() != in.Load()-out.Load() || g.Word() < 0 || out.Load() == 0 {
		t.Error(g.Word(), in.Load(), out.Load())
	}
}
