package gate_test

import (
	"slices"
	"sync/atomic"
	"testing"

	"carillon/api"
	"carillon/gate"
)

// TestFreeMembers: each place is joined and left in turn, whoever does it, and no list is ever torn or has a place twice.
func TestFreeMembers(t *testing.T) {
	const each, few = 5000, 3
	g := gate.New()
	var joined, left [few]atomic.Int64
	together(func(thread int) {
		for i := range each {
			place := (thread + i) % few
			if (thread*i)%5 < 3 && g.Join(nil, place, int64(i)) == api.OK {
				joined[place].Add(1)
			} else if g.Leave(nil, place) == api.OK {
				left[place].Add(1)
			}
			members := g.List(nil)
			slices.Sort(members)
			if len(members) > few || len(slices.Compact(slices.Clone(members))) != len(members) || slices.ContainsFunc(members, func(place int) bool { return place < 0 || place >= few }) {
				t.Error(members)
			}
		}
	})
	members := g.Members()
	for place := range few {
		times := int64(0)
		if slices.Contains(members, place) {
			times = 1
		}
		if joined[place].Load()-left[place].Load() != times || left[place].Load() == 0 {
			t.Error(place, joined[place].Load(), left[place].Load(), members)
		}
	}
}

// TestFreeOwnPlaces: who has a place of its own joins and leaves it as if nobody else were there, and the order of the others' stays.
func TestFreeOwnPlaces(t *testing.T) {
	const each = 2000
	g := after(join(60, 1), join(50, 2), join(40, 3))
	together(func(thread int) {
		for i := range int64(each) {
			if err := g.Join(nil, thread, i); err != api.OK {
				t.Error(thread, "joins", err)
			}
			if err := g.Join(nil, thread, i); err != api.ErrThere {
				t.Error(thread, "joins again", err)
			}
			if n, err := g.Get(nil, thread); n != i || err != api.OK {
				t.Error(thread, "has", n, err)
			}
			if members := g.List(nil); !slices.Equal(members[:3], []int{60, 50, 40}) || !slices.Contains(members, thread) {
				t.Error(thread, "is none of", members)
			}
			if err := g.Leave(nil, thread); err != api.OK {
				t.Error(thread, "leaves", err)
			}
			if err := g.Leave(nil, thread); err != api.ErrNone {
				t.Error(thread, "leaves again", err)
			}
		}
	})
	if !slices.Equal(g.Members(), []int{60, 50, 40}) || !slices.Equal(g.Numbers()[:crowd], slices.Repeat([]int64{each - 1}, crowd)) {
		t.Error(look(g))
	}
}

// TestFreeClaims is P6: of those who join one place at one time one is told that it has.
func TestFreeClaims(t *testing.T) {
	for round := range 300 {
		g := gate.New()
		var won, lost atomic.Int64
		together(func(thread int) {
			for place := range 8 {
				switch err := g.Join(nil, place, int64(thread)); err {
				case api.OK:
					won.Add(1)
				case api.ErrThere:
					lost.Add(1)
				}
			}
		})
		if won.Load() != 8 || lost.Load() != 8*(crowd-1) || len(g.Members()) != 8 {
			t.Fatal(round, won.Load(), lost.Load(), look(g))
		}
	}
}

// TestFreeFirstNumber: who sees a new member sees it with its number, or a later one.
func TestFreeFirstNumber(t *testing.T) {
	const low = 100
	for round := range 300 {
		g := gate.New()
		together(func(thread int) {
			if thread%2 == 0 {
				for place := thread; place < places; place += crowd {
					g.Join(nil, place, int64(low+place))
				}
				return
			}
			for range 200 {
				if n, place := g.Least(nil, low); n < low || place >= 0 && n != int64(low+place) {
					t.Error(round, n, place)
				}
				if ok, place := g.May(nil, low+8, 8); !ok || place != -1 {
					t.Error(round, ok, place)
				}
			}
		})
	}
}

// TestFreeGrows is P14.7 of free threads: some members go on, and leave in the end, but for one; the others look.
func TestFreeGrows(t *testing.T) {
	const each, size = 20000, 64
	g := gate.New()
	for place := range crowd / 2 {
		g.Join(nil, place, -1)
	}
	together(func(thread int) {
		if thread < crowd/2 {
			for n := range int64(each) {
				g.Set(nil, thread, n*int64(1+thread))
			}
			if thread > 0 {
				g.Leave(nil, thread)
			}
			return
		}
		last, q := int64(-1), int64(0)
		for tries := 0; last < each-1; tries++ {
			n, place := g.Least(nil, each)
			if tries > 1<<24 {
				t.Error("it has no end at", n)
				return
			}
			if n < last || place < 0 {
				t.Error(n, "at", place, "behind", last)
				return
			}
			last = n
			if ok, place := g.May(nil, n+size, size); !ok || place != -1 {
				t.Error(n, "was there, and is not at", place)
				return
			}
			if ok, _ := g.May(nil, q+1, size); ok {
				q++
			}
			if ok, place := g.May(nil, q, size); !ok {
				t.Error(q, "was allowed, and", place, "holds it")
				return
			}
		}
	})
	if n, place := g.Least(nil, 0); n != each-1 || place != 0 || len(g.Members()) != 1 {
		t.Error(n, place, g.Members())
	}
}

// TestFreeThreads: what Free's threads are told fits together, and what they leave too.
func TestFreeThreads(t *testing.T) {
	c, seen := dice(3), seen{}
	for range 300 {
		start := c.start(70)
		var threads [][]api.Op
		for range c.between(1, 6) {
			var list []api.Op
			for range 200 {
				list = append(list, c.op())
			}
			threads = append(threads, list)
		}
		got := gate.Free(start, threads)
		if len(got.Order) != 0 || got.Stuck || len(got.Answers) != len(threads) || len(got.State) != 1+int(got.State[0])+places {
			t.Fatal(len(got.Order), got.Stuck, len(got.Answers), len(got.State))
		}
		for i, list := range got.Answers {
			if len(list) != len(threads[i]) {
				t.Fatal(i, len(list))
			}
		}
		seen.checkMembers(t, meeting{start: start, threads: threads}, got)
	}
	if seen.joined < 5000 || seen.left < 5000 {
		t.Error(seen)
	}
}
