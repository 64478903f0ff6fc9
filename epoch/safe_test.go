package epoch_test

import (
	"runtime"
	"slices"
	"testing"

	"carillon/api"
	"carillon/cell"
	"carillon/epoch"
	"carillon/turn"
)

// shop is what an epoch is for: one of some places is on show, those who look hold it by being inside, and who has laid another one there uses the place again when it comes back. The places are no shared ones: who holds one too short meets who uses it.
type shop struct {
	d      *epoch.Domain
	on     cell.Word
	places []int64
	lost   [crowd]bool
	used   [crowd]int
}

// openShop has so many free places for each of the members.
func openShop(members, each int) *shop {
	p := &shop{places: make([]int64, members*each+1)}
	p.d, _ = epoch.New(members)
	p.places[0] = 1
	return p
}

// free are the places that a member has at first.
func (p *shop) free(m, each int) []int64 {
	var list []int64
	for i := range each {
		list = append(list, int64(m*each+i+1))
	}
	return list
}

// visit looks twice at what is on show, a step between.
func (p *shop) visit(s turn.Stepper, m int) {
	p.d.Enter(s, m)
	i := p.on.Load(s)
	first := p.places[i]
	if p.on.Load(s); s == nil {
		runtime.Gosched()
	}
	if first == 0 || p.places[i] != first {
		p.lost[m] = true
	}
	p.d.Leave(s, m)
}

// renew lays another place on show, if one is free, and takes back what nobody looks at; the places that are free then.
func (p *shop) renew(s turn.Stepper, m int, free []int64) []int64 {
	if len(free) > 0 {
		p.places[free[0]] = free[0] + 100*int64(p.used[m]+1)
		p.d.Retire(s, m, p.on.Swap(s, free[0]))
		free = free[1:]
	}
	p.d.Advance(s, m)
	back, _ := p.d.Collect(s, m)
	for _, i := range back {
		p.places[i] = 0
		p.used[m]++
	}
	return append(free, back...)
}

// closed tells what is wrong when all have gone, and how often a place was used again.
func (p *shop) closed() (wrong bool, used int) {
	for _, n := range p.used {
		used += n
	}
	shown := 0
	for _, v := range p.places {
		if v != 0 {
			shown++
		}
	}
	waiting := 0
	for m := range p.d.Members() {
		waiting += len(p.d.Waiting(m))
	}
	return slices.Contains(p.lost[:], true) || shown != waiting+1 || p.places[p.on.Value()] == 0, used
}

// TestShop is P10.9 by schedules.
func TestShop(t *testing.T) {
	c, all := dice(6), 0
	for range 2000 {
		p := openShop(4, 2)
		var threads []func(s turn.Stepper)
		for m := range 4 {
			threads = append(threads, func(s turn.Stepper) {
				free := p.free(m, 2)
				for range 12 {
					if c.Intn(4) < m {
						free = p.renew(s, m, free)
					} else {
						p.visit(s, m)
					}
				}
			})
		}
		_, stuck, broken := turn.Over(threads, c.schedule(0, 3, 150), 9999)
		wrong, used := p.closed()
		if stuck || slices.Contains(broken, true) || wrong {
			t.Fatal(stuck, broken, look(p.d), p)
		}
		all += used
	}
	if all < 1000 {
		t.Error(all)
	}
}

// TestFreeShop is P10.9 of free threads.
func TestFreeShop(t *testing.T) {
	p := openShop(crowd, 4)
	together(func(m int) {
		free := p.free(m, 4)
		for i := range 20000 {
			if (m+i)%3 == 0 {
				free = p.renew(nil, m, free)
			} else {
				p.visit(nil, m)
			}
		}
	})
	wrong, used := p.closed()
	if wrong || used == 0 || p.d.Epoch() < 2 {
		t.Error(wrong, used, look(p.d))
	}
	for m, mark := range p.d.Marks() {
		if mark != 0 {
			t.Error(m, mark)
		}
	}
}

// TestFreeAdvance is P6 of the epoch: each of its numbers is left by one Advance.
func TestFreeAdvance(t *testing.T) {
	const each = 3000
	d := members(crowd)
	var won [crowd]int64
	together(func(m int) {
		last := int64(-1)
		for i := range each {
			if yes, err := d.Advance(nil, m); err != api.OK {
				t.Error(err)
			} else if yes {
				won[m]++
			}
			e, err := d.Retire(nil, m, int64(i))
			if err != api.OK || e < last || e < won[m] {
				t.Error(m, "was at", last, "and has won", won[m], "and is at", e)
			}
			last = e
		}
	})
	total := int64(0)
	for m, n := range won {
		total += n
		if len(d.Waiting(m)) != each {
			t.Error(m, len(d.Waiting(m)))
		}
	}
	if d.Epoch() != total || total < each {
		t.Error(d.Epoch(), won)
	}
}

// TestFreeThreads: what free threads are told fits together.
func TestFreeThreads(t *testing.T) {
	c := dice(3)
	for round := range 40 {
		threads, start := c.threads(8+round%9, 600), int64(c.Intn(5))
		got := epoch.Free([]int64{start}, threads)
		if len(got.Order) != 0 || got.Stuck || len(got.Answers) != len(threads) || len(got.State) != len(threads)+1 {
			t.Fatal(got.Order, got.Stuck, got.State)
		}
		now := start
		for m, list := range got.Answers {
			if len(list) != len(threads[m]) {
				t.Fatal(m, len(list))
			}
			k := clerk{t: t, now: start}
			for i, a := range list {
				k.hear(threads[m][i], a)
			}
			now += k.won
			if k.mark != got.State[m+1] || k.now > got.State[0] {
				t.Fatal(m, k.mark, k.now, got.State)
			}
		}
		if now != got.State[0] {
			t.Fatal("the epoch was moved on up to", now, "and is", got.State[0])
		}
	}
}

// clerk holds what a free thread is told against what it was told ahead of that: an epoch that has come at least, its mark, and its things.
type clerk struct {
	t      *testing.T
	now    int64
	mark   int64
	won    int64
	things []waits
}

func (k *clerk) hear(o api.Op, a api.Answer) {
	wrong := a.OK != k.may(o) || !a.OK && a.N != 0 || o.Kind != opCollect && len(a.List) != 0
	switch {
	case !a.OK:
	case o.Kind == opEnter:
		wrong = wrong || a.N < k.now
		k.now, k.mark = a.N, a.N+1
	case o.Kind == opLeave:
		wrong = wrong || a.N != 0
		k.mark = 0
	case o.Kind == opRetire:
		wrong = wrong || a.N < k.now
		k.now = a.N
		k.things = append(k.things, waits{o.A, a.N})
	case o.Kind == opAdvance:
		wrong = wrong || a.N != 0 && a.N != 1
		k.won, k.now = k.won+a.N, k.now+a.N
	case o.Kind == opCollect:
		wrong = wrong || a.N != 0 || !k.takes(a.List)
	}
	if wrong {
		k.t.Fatal(o, a, k.now, k.mark, k.things)
	}
}

func (k *clerk) may(o api.Op) bool {
	switch o.Kind {
	case opEnter:
		return k.mark == 0
	case opLeave:
		return k.mark != 0
	}
	return o.Kind != 0
}

// takes holds a list against the things that waited: the first ones, and at least those that lie far enough behind the epoch that has come.
func (k *clerk) takes(list []int64) bool {
	for i, thing := range list {
		if i >= len(k.things) || k.things[i].thing != thing {
			return false
		}
		k.now = max(k.now, k.things[i].epoch+2)
	}
	k.things = k.things[len(list):]
	return len(k.things) == 0 || k.things[0].epoch > k.now-2
}
