package solo_test

import (
	"slices"
	"testing"

	"carillon/solo"
	"carillon/turn"
)

// still is what is to be seen where so many steps change nothing that is.
func still(what string, steps int) []string { return slices.Repeat([]string{what}, steps+1) }

// filled is a ring of two slots and two readers, the first of whom has read one of both items.
func filled() *solo.Solo { return after(2, 2, write(7, 8), read(0)) }

const fresh = "2 1 [0 -1]"

// TestOrder: what is to be seen ahead of each step: Step is called right ahead of it.
func TestOrder(t *testing.T) {
	zero := func() *solo.Solo { return ring(2, 2) }
	began := func() *solo.Solo { return after(2, 2, claim(2)) }
	lapped := func() *solo.Solo { return after(2, 2, write(7, 8), read(0), read(1)) }
	for _, x := range []watched{
		{"Claim that looks at nobody", zero, claim(2), nil, number(0), still("2 -1 [-1 -1]", 0)},
		{"Claim that is refused", filled, claim(1), nil, full, still(fresh, 2)},
		{"Claim that looks", lapped, claim(1), nil, number(2), []string{"2 1 [0 0]", "2 1 [0 0]", "3 1 [0 0]"}},
		{"Put", began, put(1, 5), nil, done, still("2 -1 [-1 -1]", 3)},
		{"Publish", began, publish(1), nil, done, []string{"2 -1 [-1 -1]", "2 1 [-1 -1]"}},
		{"Publish of some", began, publish(0), nil, done, []string{"2 -1 [-1 -1]", "2 0 [-1 -1]"}},
		{"Write", zero, write(5, 6), nil, number(0), append(still("2 -1 [-1 -1]", 6), "2 1 [-1 -1]")},
		{"Write that looks", lapped, write(5), nil, number(2), slices.Concat(still("2 1 [0 0]", 1), still("3 1 [0 0]", 3), []string{"3 2 [0 0]"})},
		{"Write that is refused", filled, write(5), nil, full, still(fresh, 2)},
		{"Read", filled, read(1), nil, number(7), append(still(fresh, 4), "2 1 [0 0]")},
		{"Read of the next one", filled, read(0), nil, number(8), append(still(fresh, 4), "2 1 [1 -1]")},
		{"Read of nothing", zero, read(0), nil, empty, still("0 -1 [-1 -1]", 1)},
		{"Batch", filled, batch(1, 2), nil, items(7, 8), append(still(fresh, 7), "2 1 [0 1]")},
		{"Batch of one", filled, batch(1, 1), nil, items(7), append(still(fresh, 4), "2 1 [0 0]")},
		{"Batch of what is left", filled, batch(0, 9), nil, items(8), append(still(fresh, 4), "2 1 [1 -1]")},
		{"Batch of nothing", zero, batch(1, 9), nil, empty, still("0 -1 [-1 -1]", 1)},
	} {
		x.check(t)
		x.checkEnds(t)
	}
}

// TestHoles: the steps of a reader where something was never put.
func TestHoles(t *testing.T) {
	hole := func() *solo.Solo { return after(2, 1, claim(2), publish(1)) }
	second := func() *solo.Solo { return after(2, 1, claim(2), put(0, 5), publish(1)) }
	for _, x := range []watched{
		{"Read", hole, read(0), nil, none, still("2 1 [-1]", 2)},
		{"Batch", hole, batch(0, 9), nil, none, still("2 1 [-1]", 2)},
		{"Batch up to it", second, batch(0, 9), nil, items(5), append(still("2 1 [-1]", 5), "2 1 [0]")},
	} {
		x.check(t)
		x.checkEnds(t)
	}
}

// TestBetweenClaim: what a reader has finished right ahead of the step that looks at it counts, and what it finishes behind that doesn't.
func TestBetweenClaim(t *testing.T) {
	const both = "2 1 [0 0]"
	two := func() *solo.Solo { return after(2, 2, write(7, 8)) }
	for _, x := range []watched{
		{"Claim, finished ahead of the look", filled, claim(1), map[int]call{2: read(1)}, number(2), []string{fresh, fresh, "3 1 [0 0]"}},
		{"Claim, finished ahead of the other look", filled, claim(1), map[int]call{1: read(1)}, number(2), []string{fresh, both, "3 1 [0 0]"}},
		{"Claim, finished behind the look", two, claim(1), map[int]call{1: read(1), 2: read(0)}, full, []string{"2 1 [-1 -1]", "2 1 [-1 0]", both}},
		{"Claim, half finished ahead of the look", filled, claim(1), map[int]call{2: half(read(1), 4)}, full, still(fresh, 2)},
		{"Claim, more than is wanted", two, claim(2), map[int]call{1: batch(0, 2), 2: batch(1, 2)}, number(2), []string{"2 1 [-1 -1]", "2 1 [1 -1]", "4 1 [1 1]"}},
		{"Claim, less than is wanted", two, claim(2), map[int]call{1: batch(0, 2), 2: read(1)}, full, []string{"2 1 [-1 -1]", "2 1 [1 -1]", "2 1 [1 0]"}},
		{"Write, finished ahead of the look", filled, write(9), map[int]call{2: read(1)}, number(2), slices.Concat(still(fresh, 1), still("3 1 [0 0]", 3), []string{"3 2 [0 0]"})},
		{"Write, finished behind the look", two, write(9), map[int]call{2: batch(0, 2)}, full, []string{"2 1 [-1 -1]", "2 1 [-1 -1]", "2 1 [1 -1]"}},
		{"Write, read on behind the looks", filled, write(9), map[int]call{2: read(1), 3: read(0), 6: read(1)}, number(2), []string{fresh, fresh, "3 1 [0 0]", "3 1 [1 0]", "3 1 [1 0]", "3 1 [1 0]", "3 2 [1 1]"}},
	} {
		x.check(t)
	}
}

// TestBetweenRead: what is published right ahead of a reader's first step is there for it, and what is published behind that isn't.
func TestBetweenRead(t *testing.T) {
	const went, more = "1 0 [-1 -1]", "2 1 [-1 -1]"
	zero := func() *solo.Solo { return ring(4, 2) }
	one := func() *solo.Solo { return after(4, 2, write(7)) }
	claimed := func() *solo.Solo { return after(4, 2, write(7), claim(1), put(1, 8)) }
	next := write(8)
	for _, x := range []watched{
		{"Read, written ahead of S1", zero, read(0), map[int]call{1: write(7)}, number(7), slices.Concat([]string{"0 -1 [-1 -1]"}, still(went, 3), []string{"1 0 [0 -1]"})},
		{"Read, half written ahead of S1", zero, read(0), map[int]call{1: half(write(7), 3)}, empty, []string{"0 -1 [-1 -1]", "1 -1 [-1 -1]"}},
		{"Read, written behind S1", one, read(1), map[int]call{2: next}, number(7), slices.Concat(still(went, 1), still(more, 2), []string{"2 1 [-1 0]"})},
		{"Read, the other reader goes on", one, read(1), map[int]call{2: read(0), 4: next}, number(7), []string{went, went, "1 0 [0 -1]", "1 0 [0 -1]", "2 1 [0 -1]", "2 1 [0 0]"}},
		{"Batch, written ahead of S1", one, batch(0, 9), map[int]call{1: next}, items(7, 8), slices.Concat([]string{went}, still(more, 6), []string{"2 1 [1 -1]"})},
		{"Batch, published ahead of S1", claimed, batch(0, 9), map[int]call{1: publish(1)}, items(7, 8), slices.Concat([]string{"2 0 [-1 -1]"}, still(more, 6), []string{"2 1 [1 -1]"})},
		{"Batch, written behind S1", one, batch(0, 9), map[int]call{2: next}, items(7), slices.Concat(still(went, 1), still(more, 2), []string{"2 1 [0 -1]"})},
		{"Batch, published behind S1", claimed, batch(0, 9), map[int]call{2: publish(1)}, items(7), slices.Concat(still("2 0 [-1 -1]", 1), still(more, 2), []string{"2 1 [0 -1]"})},
		{"Batch, half written ahead of S1", one, batch(0, 9), map[int]call{1: half(next, 3)}, items(7), slices.Concat([]string{went}, still("2 0 [-1 -1]", 3), []string{"2 0 [0 -1]"})},
		{"Batch of nothing, written ahead of S1", zero, batch(1, 1), map[int]call{1: write(5, 6)}, items(5), slices.Concat([]string{"0 -1 [-1 -1]"}, still(more, 3), []string{"2 1 [-1 0]"})},
	} {
		x.check(t)
	}
}

// TestEnded: what a call that was ended has left: a claim stands, what isn't published isn't seen, and a reader that hasn't finished reads the same again.
func TestEnded(t *testing.T) {
	for steps := range 7 {
		r := after(2, 1, half(write(5, 6), steps))
		check(t, r, "Read behind half a Write", read(0), empty, 1, "2 -1 [-1]")
		check(t, r, "Claim behind half a Write", claim(1), full, 1, "2 -1 [-1]")
		check(t, r, "Put anew", put(0, 7), done, 3, "2 -1 [-1]")
		check(t, r, "Put anew", put(1, 8), done, 3, "2 -1 [-1]")
		check(t, r, "Publish then", publish(1), done, 1, "2 1 [-1]")
		check(t, r, "Batch then", batch(0, 9), items(7, 8), 8, "2 1 [1]")
	}
	for steps := range 5 {
		r := after(2, 1, write(5, 6), half(read(0), steps))
		check(t, r, "Read behind half a Read", read(0), number(5), 5, "2 1 [0]")
	}
	for steps := range 8 {
		r := after(2, 1, write(5, 6), half(batch(0, 2), steps))
		check(t, r, "Batch behind half a Batch", batch(0, 2), items(5, 6), 8, "2 1 [1]")
	}
	for steps := range 2 {
		r := after(2, 2, write(5, 6), read(0), read(1), half(claim(1), steps))
		check(t, r, "Claim behind half a Claim", claim(1), number(2), 2, "3 1 [0 0]")
	}
	for steps := range 3 {
		r := after(2, 1, claim(1), half(put(0, 5), steps))
		check(t, r, "Publish behind half a Put", publish(0), done, 1, "1 0 [-1]")
		check(t, r, "Read behind half a Put", read(0), none, 2, "1 0 [-1]")
	}
	r := after(2, 1, claim(1), put(0, 5), half(publish(0), 0))
	check(t, r, "Put behind half a Publish", put(0, 6), done, 3, "1 -1 [-1]")
	check(t, r, "Publish behind half a Publish", publish(0), done, 1, "1 0 [-1]")
}

// anyCall is a call of any kind, by whatever thread.
func (c chance) anyCall() call {
	q, k := int64(c.between(-2, 20)), c.between(-1, 2)
	return []call{claim(c.between(-1, 5)), put(q, q), publish(q), write(make([]int64, c.between(0, 5))...), read(k), batch(k, c.between(-1, 9))}[c.Intn(6)]
}

// TestTogether: where several make the same one's calls at one time, nothing is promised but that all end.
func TestTogether(t *testing.T) {
	c := dice(7)
	for range 2000 {
		r := ring(1<<c.Intn(3), c.between(0, 2))
		threads := make([]func(s turn.Stepper), 4)
		for i := range threads {
			threads[i] = func(s turn.Stepper) {
				for range 10 {
					c.anyCall()(r, s)
				}
			}
		}
		if _, stuck, broken := turn.Over(threads, c.schedule(0, 3, 60), 9999); stuck || slices.Contains(broken, true) {
			t.Fatal(stuck, broken, look(r))
		}
	}
}
