package multi_test

import (
	"fmt"
	"math"
	"slices"
	"testing"

	"carillon/api"
	"carillon/multi"
	"carillon/turn"
)

var (
	badSizes  = []int{math.MinInt, -1 << 32, -65536, -2, -1, 0, 3, 5, 6, 7, 9, 12, 100, 65535, 65537, 98304, 1 << 17, 1 << 31, 1 << 32, 1<<32 + 1, 1 << 62, math.MaxInt}
	badFirsts = []int64{math.MinInt64, -end, -1 << 32, -2, -1, end, end + 1, math.MaxInt64}
	firsts    = []int64{0, 1, 2, 3, 63, 65535, 65536, 1 << 32, end / 2, end - 2, end - 1}
)

// TestNew is P13.1: what can be, and what a new ring is like; two of them share nothing.
func TestNew(t *testing.T) {
	for _, size := range badSizes {
		for _, first := range slices.Concat(firsts, badFirsts) {
			if m, err := multi.New(size, first); m != nil || err != api.ErrRange {
				t.Error(size, first, err)
			}
		}
	}
	for size := 1; size <= api.MostSize; size *= 2 {
		for _, first := range badFirsts {
			if m, err := multi.New(size, first); m != nil || err != api.ErrRange {
				t.Error(size, first, err)
			}
		}
		for _, first := range firsts {
			m, err := multi.New(size, first)
			if err != api.OK || m.Size() != size || m.Cursor(nil) != first-1 || m.Seen() != first-1 || m.Published(nil, first) != first-1 {
				t.Error(size, first, err)
			}
			if r := m.Ring(); r == nil || r.Size() != size || slices.Max(r.Stamps()) != -2 || slices.Max(r.Values()) != 0 {
				t.Error(size, first, "what lies there at first")
			}
		}
	}
	one, other := ring(2, 0), ring(2, 0)
	offer(nil, 7, 8)(one, nil)
	if look(one) != "1 -1 [0 0] [7 8]" || look(other) != "-1 -1 [-2 -2] [0 0]" {
		t.Error(look(one), look(other))
	}
}

// TestRing: it is the very ring, and always the same one.
func TestRing(t *testing.T) {
	m := ring(4, 5)
	if m.Ring() != m.Ring() || m.Ring() == ring(4, 5).Ring() {
		t.Error("another ring")
	}
	write(5, 7)(m, nil)
	if v, err := m.Ring().Get(nil, 5); v != 7 || err != api.OK {
		t.Error(v, err)
	}
	claim(nil, 2)(m, nil)
	m.Ring().Put(nil, 6, 8)
	check(t, m, "Published", published(5), number(6), 3, "6 4 [-2 2 2 -2] [0 7 8 0]")
}

// TestExamples are the chapter's.
func TestExamples(t *testing.T) {
	m, r := ring(4, 0), at(-1)
	check(t, m, "Claim 3", claim(r, 3), number(2), 3, "2 -1 [-2 -2 -2 -2] [0 0 0 0]")
	check(t, m, "Claim 2", claim(r, 2), full, 4, "2 -1 [-2 -2 -2 -2] [0 0 0 0]")
	r.finish(0, 0)(m, nil)
	check(t, m, "Claim 2", claim(r, 2), full, 6, "2 0 [-2 -2 -2 -2] [0 0 0 0]")
	check(t, m, "Write at 1", write(1, 7), done, 3, "2 0 [-2 0 -2 -2] [0 7 0 0]")
	check(t, m, "Published", published(0), number(-1), 2, "2 0 [-2 0 -2 -2] [0 7 0 0]")
	check(t, m, "Write at 0", write(0, 5), done, 3, "2 0 [0 0 -2 -2] [5 7 0 0]")
	check(t, m, "Published", published(0), number(1), 4, "2 0 [0 0 -2 -2] [5 7 0 0]")
	check(t, m, "Claim 2", claim(r, 2), number(4), 4, "4 0 [0 0 -2 -2] [5 7 0 0]")
	checkStill(t, m, "Claim 5", claim(r, 5), foreign)
	m = ring(4, end-1)
	after := state(end-1, end-2, []int64{-2, -2, -2, -2}, make([]int64, 4))
	check(t, m, "Claim 1", claim(nil, 1), number(end-1), 3, after)
	check(t, m, "Claim 1", claim(nil, 1), ended, 1, after)
}

// slow is a Holder that does so many steps.
type slow struct {
	n     int64
	steps int
}

func (h slow) Least(s turn.Stepper, _ int64) (int64, int) {
	for range h.steps {
		if s != nil {
			s.Step()
		}
	}
	return h.n, 63
}

// asked is a Holder that keeps what it was asked.
type asked struct {
	nones    []int64
	steppers []turn.Stepper
}

func (h *asked) Least(s turn.Stepper, none int64) (int64, int) {
	h.nones, h.steppers = append(h.nones, none), append(h.steppers, s)
	return none, -1
}

// TestClaimRange is P13.2's ErrRange, whatever the ring is like; nobody is asked.
func TestClaimRange(t *testing.T) {
	h := &asked{}
	for size := 1; size <= 4096; size *= 16 {
		n := int64(size)
		for _, m := range []*multi.Multi{ring(size, 0), ring(size, end-1), after(size, 7, claim(nil, n)), after(size, 7, offer(nil, counted(7, size)...))} {
			for _, count := range []int64{math.MinInt64, math.MinInt64 + 1, -end, -1 << 32, -n, -1, 0, n + 1, n + 2, 2 * n, api.MostSize + 1, 1<<32 + 1, end, math.MaxInt64} {
				checkStill(t, m, fmt.Sprint("Claim of ", count), claim(h, count), foreign)
			}
		}
		if got := claim(h, n)(ring(size, 0), nil); got != number(n-1) {
			t.Error(size, got)
		}
	}
	if len(h.nones) != 0 {
		t.Error("asked", h.nones)
	}
}

// TestClaimEnd is P13.2's ErrEnd: what would pass the end, and nothing else; behind one step, ahead of whoever holds back.
func TestClaimEnd(t *testing.T) {
	h := &asked{}
	for size := int64(1); size <= 64; size *= 2 {
		for left := range size + 1 {
			for n := int64(1); n <= size; n++ {
				m := ring(int(size), end-size-1)
				m.SetTo(end-1-left, end-1-left)
				for q := end - size - 1; q < end-left; q++ {
					write(q, q)(m, nil)
				}
				if before := look(m); n > left {
					check(t, m, "Claim", claim(h, n), ended, 1, before)
					check(t, m, "Offer", offer(h, make([]int64, n)...), ended, 1, before)
				} else if got := offer(h, make([]int64, n)...)(m, nil); got != number(end-1-left+n) {
					t.Error(size, left, n, got)
				}
			}
		}
	}
	if len(h.nones) != 0 {
		t.Error("asked", h.nones)
	}
	m := after(4, end-3, offer(nil, 1, 2, 3))
	last := state(end-1, end-4, []int64{-2, 2 * (end/4 - 1), 2 * (end/4 - 1), 2 * (end/4 - 1)}, []int64{0, 1, 2, 3})
	if look(m) != last {
		t.Error(look(m), last)
	}
	for n := int64(1); n <= 4; n++ {
		check(t, m, "Claim behind the last", claim(fixed(-1), n), ended, 1, last)
	}
	checkStill(t, m, "Claim behind the last", claim(fixed(-1), 5), foreign)
	check(t, m, "Published", published(end-3), number(end-1), 4, last)
}

// lone is a ring that nobody else reaches meanwhile: its own numbers, and which sequences up to the cursor have been written.
type lone struct {
	size, first, cursor, seen int64
	lies                      func(q int64) bool
}

func (x lone) make() *multi.Multi {
	m := ring(int(x.size), x.first)
	for q := x.first; q <= x.cursor; q++ {
		if x.lies(q) {
			write(q, valueOf(q))(m, nil)
		} else {
			half(write(q, valueOf(q)), 1)(m, nil)
		}
	}
	m.SetTo(x.cursor, x.seen)
	return m
}

// claim is what a Claim does by the chapter's words: its answer, its steps, and what the cursor and seen are then.
func (x lone) claim(n, least int64, asking int) (told, int, int64, int64) {
	steps, seen := 2, x.seen
	if x.cursor+n-x.size > seen {
		steps, seen = steps+asking+1, min(least, x.cursor)
		if x.cursor+n-x.size > seen {
			return full, steps, x.cursor, seen
		}
	}
	for q := x.cursor + 1; q <= x.cursor+n; q++ {
		if q-x.size < x.first {
			continue
		}
		steps++
		if !x.lies(q - x.size) {
			return full, steps + 1, x.cursor, seen
		}
	}
	return number(x.cursor + n), steps + 1, x.cursor + n, seen
}

func (x lone) check(t *testing.T, name string, h multi.Holder, n, least int64, asking int) {
	t.Helper()
	m := x.make()
	want, steps, cursor, seen := x.claim(n, least, asking)
	check(t, m, name, claim(h, n), want, steps, state(cursor, seen, m.Ring().Stamps(), m.Ring().Values()))
}

// everyLone hands on small rings behind each of some sequences, where each of the last ones has been written or is being written.
func everyLone(see func(x lone)) {
	for _, size := range []int64{1, 2, 4} {
		for _, first := range []int64{0, 1, 6} {
			for cursor := first - 1; cursor <= first+size+1; cursor++ {
				for mask := range int64(1) << min(size, cursor-first+1) {
					lies := func(q int64) bool { return q <= cursor-size || mask>>(cursor-q)&1 == 0 }
					see(lone{size, first, cursor, first - 1, lies})
				}
			}
		}
	}
}

// TestClaim is P13.2 of one who is alone, whatever was claimed, written and seen, and whatever a Holder tells.
func TestClaim(t *testing.T) {
	answers := map[told]int{}
	everyLone(func(x lone) {
		for n := int64(1); n <= x.size; n++ {
			for x.seen = x.cursor - x.size - 1; x.seen <= x.cursor; x.seen++ {
				for least := x.cursor - x.size - 1; least <= x.cursor+2; least++ {
					x.check(t, "Claim", fixed(least), n, least, 0)
					got, _, _, _ := x.claim(n, least, 0)
					answers[told{err: got.err}]++
				}
				x.check(t, "Claim with nobody", nil, n, x.cursor, 0)
				x.check(t, "Claim with far ones", slow{math.MaxInt64, 1}, n, math.MaxInt64, 1)
				x.check(t, "Claim with none that has begun", slow{math.MinInt64, 2}, n, math.MinInt64, 2)
				x.check(t, "Claim with no readers", readers{}, n, x.cursor, 0)
				x.check(t, "Claim with three readers", at(x.cursor, x.cursor-2, x.cursor-1), n, x.cursor-2, 3)
			}
		}
	})
	if answers[done] < 1000 || answers[full] < 1000 {
		t.Error(answers)
	}
}

// TestClaimAsks: a Holder is asked once, with the cursor as none and with the caller's own Stepper; and only where seen doesn't tell.
func TestClaimAsks(t *testing.T) {
	h, c := &asked{}, turn.NewCounter(99)
	m := ring(4, 10)
	for i := range int64(3) {
		for range 4 {
			if last, err := m.Offer(c, h, 1); err != api.OK {
				t.Fatal(last, err)
			}
		}
		if want := []int64{13, 17}[:i]; !slices.Equal(h.nones, want) {
			t.Error(h.nones, want)
		}
	}
	if h.steppers[0] != turn.Stepper(c) || h.steppers[1] != turn.Stepper(c) {
		t.Error("another Stepper")
	}
	for want, h := range map[told]multi.Holder{number(22): nil, full: fixed(17)} {
		m = after(4, 10, offer(nil, 1, 2, 3, 4), offer(nil, 1, 2, 3, 4), offer(nil, 1, 2, 3, 4))
		if got := claim(h, 1)(m, nil); got != want {
			t.Error(h, got)
		}
	}
	h, m = &asked{}, after(1, 10, offer(nil, 1))
	claim(h, 1)(m, nil)
	if len(h.steppers) != 1 || h.steppers[0] != nil {
		t.Error("no Stepper was handed in", h.steppers)
	}
}

// silent is a Holder that is there, though it is a nil pointer.
type silent struct{}

func (*silent) Least(turn.Stepper, int64) (int64, int) { return 0, 0 }

func TestClaimNilPointer(t *testing.T) {
	var h *silent
	m := after(2, 0, offer(nil, 7, 8))
	check(t, m, "Claim of one", claim(h, 1), number(2), 5, "2 0 [0 0] [7 8]")
	check(t, m, "Claim of one more", claim(h, 1), full, 3, "2 0 [0 0] [7 8]")
}

// TestClaimLesser: what is seen is never above the cursor that was loaded ahead of it, so that one who joins behind it holds the writers back.
func TestClaimLesser(t *testing.T) {
	m := after(2, 0, offer(nil, 7, 8))
	check(t, m, "Claim, and all are far", claim(fixed(99), 1), number(2), 5, "2 1 [0 0] [7 8]")
	check(t, m, "Write", write(2, 9), done, 3, "2 1 [2 0] [9 8]")
	check(t, m, "Claim within what was seen", claim(fixed(0), 1), number(3), 4, "3 1 [2 0] [9 8]")
	check(t, m, "Claim with one who has joined", claim(fixed(1), 1), full, 3, "3 1 [2 0] [9 8]")
	check(t, m, "Claim with one who has gone on", claim(fixed(2), 1), number(4), 5, "4 2 [2 0] [9 8]")
}

// TestClaimSeenFalls: what is seen is what was found last, be it less than what was found once.
func TestClaimSeenFalls(t *testing.T) {
	m := after(2, 0, offer(nil, 7, 8), offer(nil, 9))
	check(t, m, "Claim", claim(fixed(0), 2), full, 3, "2 0 [2 0] [9 8]")
	check(t, m, "Claim", claim(fixed(-7), 2), full, 3, "2 -7 [2 0] [9 8]")
	check(t, m, "Claim", claim(fixed(1), 1), number(3), 5, "3 1 [2 0] [9 8]")
}

// TestClaimSlow: also where no reader has a say a slot isn't claimed while what was claimed there a lap ahead is unwritten.
func TestClaimSlow(t *testing.T) {
	m := after(2, 0, claim(nil, 2))
	check(t, m, "Claim", claim(nil, 1), full, 5, "1 1 [-2 -2] [0 0]")
	check(t, m, "Claim", claim(nil, 1), full, 4, "1 1 [-2 -2] [0 0]")
	check(t, m, "Write of the second", write(1, 8), done, 3, "1 1 [-2 0] [0 8]")
	check(t, m, "Claim", claim(nil, 1), full, 4, "1 1 [-2 0] [0 8]")
	half(write(0, 7), 2)(m, nil)
	check(t, m, "Claim while it is being written", claim(nil, 2), full, 4, "1 1 [-1 0] [7 8]")
	write(0, 7)(m, nil)
	check(t, m, "Claim", claim(nil, 2), number(3), 5, "3 1 [0 0] [7 8]")
}

// TestWrite is P13.3: nothing is looked at.
func TestWrite(t *testing.T) {
	for _, q := range []int64{0, 1, 2, 3, 4, 5, 6, 7, 8, 63, 1 << 32, end - 1} {
		m := ring(4, 3)
		stamps, values := []int64{-2, -2, -2, -2}, make([]int64, 4)
		stamps[q%4], values[q%4] = 2*(q/4), -q
		check(t, m, "Write", write(q, -q), done, 3, state(2, 2, stamps, values))
	}
	for _, m := range []*multi.Multi{ring(1, 0), ring(4, 3), after(4, end-1, claim(nil, 1))} {
		for _, q := range badFirsts {
			checkStill(t, m, fmt.Sprint("Write at ", q), write(q, 7), foreign)
		}
	}
	m := after(2, 0, offer(nil, 7, 8), claim(nil, 1))
	check(t, m, "Write of a lap ahead", write(4, math.MinInt64), done, 3, state(2, 1, []int64{4, 0}, []int64{math.MinInt64, 8}))
	check(t, m, "Write of a lap behind", write(0, math.MaxInt64), done, 3, state(2, 1, []int64{0, 0}, []int64{math.MaxInt64, 8}))
}

// TestOffer is P13.4: any number of values, where there is room for them or not.
func TestOffer(t *testing.T) {
	for _, size := range []int{1, 2, 4, 16} {
		for ahead := range size + 1 {
			for n := range size + 3 {
				values := counted(int64(ahead)+5, n)
				m := after(size, 5, offer(nil, counted(5, ahead)...))
				stamps, lie := m.Ring().Stamps(), m.Ring().Values()
				if n == 0 || n > size {
					checkStill(t, m, "Offer", offer(fixed(4), values...), foreign)
					continue
				}
				if ahead+n > size {
					check(t, m, "Offer", offer(fixed(4), values...), full, 3, state(4+int64(ahead), 4, stamps, lie))
					continue
				}
				for i, v := range values {
					q := 5 + ahead + i
					stamps[q%size], lie[q%size] = 2*int64(q/size), v
				}
				last := 4 + int64(ahead+n)
				check(t, m, "Offer", offer(fixed(4), values...), number(last), 3+3*n, state(last, 4, stamps, lie))
			}
		}
	}
}

// TestOfferFull: an Offer that is refused for what isn't written has written nothing.
func TestOfferFull(t *testing.T) {
	m := after(4, 0, offer(nil, 5, 6), claim(nil, 1), offer(nil, 8))
	check(t, m, "Offer of what has room", offer(nil, 9, 10), number(5), 3+2+7, "5 3 [2 2 -2 0] [9 10 0 8]")
	check(t, m, "Offer of more", offer(nil, 1), full, 4, "5 3 [2 2 -2 0] [9 10 0 8]")
	m = after(4, 0, offer(nil, 5, 6), claim(nil, 1), offer(nil, 8))
	check(t, m, "Offer of too many", offer(nil, 9, 10, 11), full, 3+3+1, "3 3 [0 0 -2 0] [5 6 0 8]")
}

// TestCursor is P13.5: it tells what is claimed, written or not.
func TestCursor(t *testing.T) {
	m := ring(4, 7)
	for i, do := range []call{all(), claim(nil, 1), offer(nil, 5, 6), claim(nil, 9), claim(fixed(0), 2)} {
		do(m, nil)
		check(t, m, "Cursor", cursor, number([]int64{6, 7, 9, 9, 9}[i]), 1, look(m))
	}
}

// TestPublished is P13.5, from each sequence, whatever was written of what was claimed.
func TestPublished(t *testing.T) {
	everyLone(func(x lone) {
		m := x.make()
		lies := func(q int64) bool { return q >= x.first && q > x.cursor-x.size && x.lies(q) }
		for from := int64(0); from <= x.cursor+3; from++ {
			q, steps := from, 1
			for ; q <= x.cursor && q < from+x.size; q++ {
				if steps++; !lies(q) {
					break
				}
			}
			check(t, m, fmt.Sprint("Published from ", from), published(from), number(q-1), steps, look(m))
		}
	})
	for _, m := range []*multi.Multi{after(1, 0, claim(nil, 1)), ring(4, end-1), after(4, end-2, offer(nil, 5, 6))} {
		for _, from := range badFirsts[1:] {
			checkStill(t, m, fmt.Sprint("Published from ", from), published(from), number(from-1))
		}
		checkStill(t, m, "Published from the least", published(math.MinInt64), number(math.MinInt64))
		check(t, m, "Published from 0", published(0), number(-1), 2, look(m))
	}
	m := after(4, end-2, offer(nil, 5, 6))
	check(t, m, "Published to the end", published(end-2), number(end-1), 3, look(m))
	check(t, m, "Published at the end", published(end-1), number(end-1), 2, look(m))
}

// TestPublishedAhead: what is written and not claimed isn't told.
func TestPublishedAhead(t *testing.T) {
	m := after(4, 0, write(0, 5), write(1, 6), write(2, 7))
	check(t, m, "Published", published(0), number(-1), 1, look(m))
	claim(nil, 2)(m, nil)
	check(t, m, "Published", published(0), number(1), 3, look(m))
	check(t, m, "Published", published(2), number(1), 1, look(m))
}

// TestGreatRing: the greatest ring is filled at once, and again.
func TestGreatRing(t *testing.T) {
	const size = api.MostSize
	m, r := ring(size, 3), at(2, 2)
	for lap := range int64(3) {
		q, asking := 3+lap*size, 0
		if lap > 0 {
			r.finish(0, q-1)(m, nil)
			r.finish(1, q-1)(m, nil)
			asking = 3 + size
		}
		steps := turn.NewCounter(api.MostSteps)
		if got := offer(r, counted(q, size)...)(m, steps); got != number(q+size-1) || steps.Steps() != 3+asking+3*size {
			t.Error(lap, got, steps.Steps())
		}
		if got := offer(r, 1)(m, nil); got != full {
			t.Error(lap, got)
		}
		if got := claim(r, size+1)(m, turn.NewCounter(0)); got != foreign {
			t.Error(lap, got)
		}
		if high := m.Published(nil, q); high != q+size-1 {
			t.Error(lap, high)
		}
	}
	if all, err := m.Ring().Gather(nil, 3+2*size, size); err != api.OK || !slices.Equal(all, counted(3+2*size, size)) {
		t.Error(len(all), err)
	}
}

// TestNone is P13.8: a nil and the zero Multi have no slots, and refuse all.
func TestNone(t *testing.T) {
	h := &asked{}
	some := []int64{math.MinInt64, math.MinInt64 + 1, -1 << 32, -2, -1, 0, 1, 2, 64, 65536, 1 << 32, end - 1, end, math.MaxInt64}
	for name, m := range map[string]*multi.Multi{"nil": nil, "zero": {}} {
		if m.Size() != 0 || m.Ring() != nil {
			t.Error(name, m.Size(), m.Ring())
		}
		checkStill(t, m, "Cursor of "+name, cursor, number(-1))
		for _, n := range some {
			checkStill(t, m, "Claim of "+name, claim(h, n), foreign)
			checkStill(t, m, "Claim of "+name, claim(nil, n), foreign)
			want := n - 1
			if n == math.MinInt64 {
				want = n
			}
			checkStill(t, m, "Published of "+name, published(n), number(want))
			for _, v := range some {
				checkStill(t, m, "Write of "+name, write(n, v), foreign)
			}
		}
		for n := range 5 {
			checkStill(t, m, "Offer of "+name, offer(h, make([]int64, n)...), foreign)
		}
	}
	if len(h.nones) != 0 {
		t.Error("asked", h.nones)
	}
}

// TestMemory: what is handed in stays as it is, its spare room too, and isn't kept.
func TestMemory(t *testing.T) {
	m, values := ring(4, 0), []int64{5, 6, 7, 77, 78}
	if got := offer(nil, values[:3]...)(m, nil); got != number(2) || !slices.Equal(values, []int64{5, 6, 7, 77, 78}) {
		t.Error(got, values)
	}
	for i := range values {
		values[i] = -9
	}
	if look(m) != "2 -1 [0 0 0 -2] [5 6 7 0]" {
		t.Error(look(m))
	}
}
