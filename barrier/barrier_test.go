package barrier_test

import (
	"fmt"
	"math"
	"slices"
	"strings"
	"testing"

	"carillon/api"
	"carillon/barrier"
	"carillon/cell"
	"carillon/turn"
)

var (
	extremes = []int64{math.MinInt64, math.MinInt64 + 1, -api.MostSequence, -1 << 32, -2, -1, 0, 1, 2, 1 << 32, api.MostSequence - 1, api.MostSequence, math.MaxInt64 - 1, math.MaxInt64}
	noWays   = []barrier.Way{math.MinInt, -1 << 32, -3, -2, -1, 0, 4, 5, 7, 1 << 32, 1<<32 + 1, math.MaxInt}
	allTries = []int{math.MinInt, -1 << 32, -9, -1, 0, 1, 2, 3, 7, 8, 9, 10, 16, 17, 18, api.MostTries - 1, api.MostTries, api.MostTries + 1, 2 * api.MostTries, 1 << 32, 1<<32 + 1, math.MaxInt}
)

// held is how many tries so many are.
func held(tries int) int {
	if tries < 1 {
		return 1
	}
	if tries > 1024 {
		return 1024
	}
	return tries
}

// TestWays: the ways' numbers.
func TestWays(t *testing.T) {
	if barrier.Eager != 1 || barrier.Lean != 2 || barrier.Rare != 3 {
		t.Error(ways())
	}
}

// TestNew is P15.1: a source that is the nil interface is left out, wherever it stands; the others are asked in order.
func TestNew(t *testing.T) {
	var none barrier.Source
	w := &watch{}
	one, two, three := source{cell.NewWord(5), '0'}, source{cell.NewWord(3), '1'}, source{cell.NewWord(4), '2'}
	for _, x := range []struct {
		b     *barrier.Barrier
		trail string
		limit int64
	}{
		{barrier.New(nil), "", -1}, {barrier.New(none), "", -1}, {barrier.New(nil, nil), "", -1}, {barrier.New(nil, none, nil), "", -1}, {barrier.New(nil, nil...), "", -1},
		{barrier.New(one), "0", 5}, {barrier.New(one, nil), "0", 5}, {barrier.New(nil, one), "0", 5}, {barrier.New(nil, nil, one, nil), "0", 5}, {barrier.New(one, nil...), "0", 5},
		{barrier.New(one, two), "01", 3}, {barrier.New(two, one), "10", 3}, {barrier.New(one, nil, two), "01", 3}, {barrier.New(nil, one, two), "01", 3}, {barrier.New(nil, two, none, one), "10", 3},
		{barrier.New(one, two, three), "012", 3}, {barrier.New(three, nil, one, nil, nil, two, nil), "201", 3}, {barrier.New(three, one), "20", 4},
		{barrier.New(one, one), "00", 5}, {barrier.New(two, one, two, two), "1011", 3},
	} {
		w.trail = nil
		if got := x.b.Limit(w); got != x.limit || string(w.trail) != x.trail || x.b.Alerted(nil) {
			t.Errorf("%q: %d by %q, want %d", x.trail, got, w.trail, x.limit)
		}
	}
}

// TestNilWord: a nil pointer in an interface is a source, of what its Load answers.
func TestNilWord(t *testing.T) {
	var word *cell.Word
	for _, b := range []*barrier.Barrier{barrier.New(word), barrier.New(word, cell.NewWord(7)), barrier.New(nil, word)} {
		if got := b.Limit(nil); got != 0 {
			t.Error(got)
		}
		for _, way := range ways() {
			if n, err := b.Wait(nil, 0, 2, way); n != 0 || err != api.OK {
				t.Error(way, n, err)
			}
			if n, err := b.Wait(nil, 1, 2, way); n != 0 || err != api.ErrEmpty {
				t.Error(way, n, err)
			}
		}
	}
}

// TestMemory: the list that is handed in is left as it is, its spare room too, and not kept; barriers of one list share nothing but the sources.
func TestMemory(t *testing.T) {
	words := []*cell.Word{cell.NewWord(9), cell.NewWord(5), cell.NewWord(7), cell.NewWord(1)}
	list := []barrier.Source{words[1], nil, words[2], nil, words[3]}
	kept := slices.Clone(list)
	one, other := barrier.New(words[0], list[:4]...), barrier.New(nil, list[:3]...)
	if !slices.Equal(list, kept) {
		t.Error(list)
	}
	clear(list)
	if one.Limit(nil) != 5 || other.Limit(nil) != 5 {
		t.Error(one.Limit(nil), other.Limit(nil))
	}
	words[1].Store(nil, 8)
	if one.Limit(nil) != 7 || other.Limit(nil) != 7 || !one.Alert(nil) || other.Alerted(nil) || !other.Alert(nil) || !one.Clear(nil) || !other.Alerted(nil) {
		t.Error(one.Limit(nil), other.Limit(nil), one.Alerted(nil), other.Alerted(nil))
	}
}

// TestExamples are the chapter's.
func TestExamples(t *testing.T) {
	h := over(5, 3)
	checkLooks(t, h, "Limit", limit, number(3), "01")
	checkLooks(t, h, "Wait for 3, one try, Eager", wait(3, 1, barrier.Eager), number(3), "a01")
	checkLooks(t, h, "Wait for 3, one try, Lean", wait(3, 1, barrier.Lean), empty, "a0")
	checkLooks(t, h, "Wait for 3, two tries, Lean", wait(3, 2, barrier.Lean), number(3), "a0a1")
	checkLooks(t, h, "Wait for 4, two tries, Eager", wait(4, 2, barrier.Eager), empty, "a01a01")
	checkLooks(t, h, "Wait for 4, two tries, Rare", wait(4, 2, barrier.Rare), empty, "a0101")
	checkStill(t, h, "Wait of the way 4", wait(1, 9, 4), foreign)
	for _, x := range []watched{
		{"thread 1 stores 6", func() *hall { return over(5, 3) }, wait(4, 9, barrier.Eager), map[int]call{4: put(1, 6)}, number(5), "a01a01", state(false, 5, 6)},
		{"thread 1 raises the alert", func() *hall { return over(5, 3) }, wait(4, 9, barrier.Eager), map[int]call{4: alert}, closed, "a01a", state(true, 5, 3)},
	} {
		x.check(t)
	}
}

// TestAlerts is P15.2: each of the three is one step, and tells what was there.
func TestAlerts(t *testing.T) {
	for _, numbers := range [][]int64{nil, {5}, {5, 3, 4}} {
		h := over(numbers...)
		quiet, loud := state(false, numbers...), state(true, numbers...)
		for range 2 {
			check(t, h, "Alerted, when it is no", alerted, not, "a", quiet)
			check(t, h, "Clear, when it is no", calm, not, "a", quiet)
			check(t, h, "Alert, when it is no", alert, done, "a", loud)
			check(t, h, "Alerted, when it is yes", alerted, done, "a", loud)
			check(t, h, "Alert, when it is yes", alert, not, "a", loud)
			check(t, h, "Clear, when it is yes", calm, done, "a", quiet)
		}
	}
}

// TestLimit is P15.3: the least number, wherever it stands, be the alert yes or no.
func TestLimit(t *testing.T) {
	for _, x := range []struct {
		numbers []int64
		least   int64
	}{
		{nil, -1}, {[]int64{5}, 5}, {[]int64{-9}, -9}, {[]int64{0}, 0}, {[]int64{-1}, -1}, {[]int64{math.MinInt64}, math.MinInt64}, {[]int64{math.MaxInt64}, math.MaxInt64},
		{[]int64{5, 3}, 3}, {[]int64{3, 5}, 3}, {[]int64{4, 4}, 4}, {[]int64{5, 3, 4}, 3}, {[]int64{3, 4, 5}, 3}, {[]int64{4, 5, 3}, 3}, {[]int64{-2, -1, -3, 7}, -3}, {[]int64{8, 7, 7, 9}, 7},
		{[]int64{math.MaxInt64, math.MaxInt64}, math.MaxInt64}, {[]int64{math.MaxInt64, math.MinInt64}, math.MinInt64}, {[]int64{math.MinInt64, 0, math.MaxInt64}, math.MinInt64},
		{[]int64{1 << 32, 1<<32 + 1, 1<<31 - 1}, 1<<31 - 1}, {[]int64{-1 << 32, -1<<32 + 1, -1}, -1 << 32},
	} {
		h := over(x.numbers...)
		for range 2 {
			checkLooks(t, h, "Limit", limit, number(x.least), "0123"[:len(x.numbers)])
			h.b.Alert(nil)
		}
	}
	for n := range 100 {
		words, all := make([]cell.Word, n), make([]barrier.Source, n)
		for i := range words {
			words[i].Store(nil, 1000)
			all[i] = &words[i]
		}
		b := barrier.New(nil, all...)
		for i := range words {
			words[i].Store(nil, int64(i))
			c := turn.NewCounter(999)
			if got := b.Limit(c); got != int64(i) || c.Steps() != n {
				t.Error(n, i, got, c.Steps())
			}
			words[i].Store(nil, 1000)
		}
	}
}

// halls are barriers of all kinds, each with its alert no, and yes.
func halls() map[string]*hall {
	all := map[string]*hall{"nil": {}}
	for _, loud := range []bool{false, true} {
		for name, h := range map[string]*hall{"zero": {b: &barrier.Barrier{}}, "without": over(), "one": over(5), "three": over(5, 3, 4)} {
			if loud {
				h.b.Alert(nil)
				name += " with an alert"
			}
			all[name] = h
		}
	}
	return all
}

// TestNoWay: ErrKind is told first, and without a step.
func TestNoWay(t *testing.T) {
	for name, h := range halls() {
		for _, way := range noWays {
			for _, tries := range []int{-1, 0, 1, 9} {
				for _, q := range []int64{math.MinInt64, 0, 3, 9} {
					checkStill(t, h, fmt.Sprint("Wait of ", name, " for ", q, " by the way ", way), wait(q, tries, way), foreign)
				}
			}
		}
	}
}

// TestNoSources: ErrNone comes ahead of all but ErrKind, and without a step.
func TestNoSources(t *testing.T) {
	for name, h := range halls() {
		if len(h.words) > 0 {
			continue
		}
		checkStill(t, h, "Limit of "+name, limit, number(-1))
		for _, way := range ways() {
			for _, tries := range allTries {
				for _, q := range extremes {
					checkStill(t, h, fmt.Sprint("Wait of ", name, " for ", q, " by the way ", way), wait(q, tries, way), away)
				}
			}
		}
	}
}

// TestNil is P15.7: it has nothing, and keeps nothing.
func TestNil(t *testing.T) {
	h := &hall{}
	for range 2 {
		for name, do := range map[string]call{"Alert": alert, "Clear": calm, "Alerted": alerted} {
			checkStill(t, h, name+" of nil", do, not)
		}
		checkStill(t, h, "Limit of nil", limit, number(-1))
	}
}

// TestZero is P15.7: it is one without sources, and has an alert.
func TestZero(t *testing.T) {
	h := &hall{b: &barrier.Barrier{}}
	check(t, h, "Alerted", alerted, not, "a", state(false))
	check(t, h, "Clear", calm, not, "a", state(false))
	check(t, h, "Alert", alert, done, "a", state(true))
	check(t, h, "Alert again", alert, not, "a", state(true))
	check(t, h, "Alerted", alerted, done, "a", state(true))
	check(t, h, "Clear", calm, done, "a", state(false))
}

// TestReached is P15.4 and P15.5 of sources that don't change: what all have reached, and no more, is OK, and the least of them is told.
func TestReached(t *testing.T) {
	for _, numbers := range [][]int64{{5}, {-1}, {math.MinInt64}, {math.MaxInt64}, {5, 3}, {3, 5}, {4, 4}, {5, 3, 4}, {3, 9, 3}, {-5, -3, -4}, {math.MaxInt64, math.MaxInt64}, {math.MinInt64, 5}, {math.MinInt64, math.MinInt64}, {math.MaxInt64, math.MaxInt64 - 1}} {
		least, names := slices.Min(numbers), "012"[:len(numbers)]
		qs := append(slices.Clone(extremes), 3, 4, 5, 6, -3, -4, -5, -6)
		for _, q := range qs {
			h := over(numbers...)
			k := len(numbers)
			if q <= least {
				for _, tries := range []int{-1, 1, 2, 99} {
					checkLooks(t, h, fmt.Sprint("Eager for ", q), wait(q, tries, barrier.Eager), number(least), "a"+names)
					checkLooks(t, h, fmt.Sprint("Rare for ", q), wait(q, tries, barrier.Rare), number(least), "a"+names)
					if held(tries) >= k {
						checkLooks(t, h, fmt.Sprint("Lean for ", q), wait(q, tries, barrier.Lean), number(least), leanTrail(names))
					}
				}
				checkLooks(t, h, fmt.Sprint("Lean for ", q), wait(q, k, barrier.Lean), number(least), leanTrail(names))
				if k > 1 {
					checkLooks(t, h, fmt.Sprint("Lean for ", q, ", a try short"), wait(q, k-1, barrier.Lean), empty, leanTrail(names[:k-1]))
				}
				continue
			}
			checkLooks(t, h, fmt.Sprint("Eager for ", q), wait(q, 3, barrier.Eager), empty, strings.Repeat("a"+names, 3))
			checkLooks(t, h, fmt.Sprint("Rare for ", q), wait(q, 3, barrier.Rare), empty, "a"+strings.Repeat(names, 3))
			near := slices.IndexFunc(numbers, func(n int64) bool { return n < q })
			checkLooks(t, h, fmt.Sprint("Lean for ", q), wait(q, 5, barrier.Lean), empty, leanTrail(names[:near]+strings.Repeat(names[near:near+1], 5-near)))
		}
	}
}

// leanTrail is a try at each of these sources.
func leanTrail(names string) string {
	trail := ""
	for _, name := range names {
		trail += "a" + string(name)
	}
	return trail
}

// rareTrail is so many tries by the way Rare.
func rareTrail(names string, tries int) string {
	trail := ""
	for try := 1; try <= tries; try++ {
		if try%8 == 1 {
			trail += "a"
		}
		trail += names
	}
	return trail
}

// TestTries: how many tries there are, by each way, where they come to nothing.
func TestTries(t *testing.T) {
	for _, numbers := range [][]int64{{5}, {5, 3}, {9, 9, 9}, {9, 8, 7, 6}} {
		names := "0123"[:len(numbers)]
		for _, tries := range allTries {
			h := over(numbers...)
			checkLooks(t, h, fmt.Sprint(tries, " tries, Eager"), wait(10, tries, barrier.Eager), empty, strings.Repeat("a"+names, held(tries)))
			checkLooks(t, h, fmt.Sprint(tries, " tries, Rare"), wait(10, tries, barrier.Rare), empty, rareTrail(names, held(tries)))
			checkLooks(t, h, fmt.Sprint(tries, " tries, Lean"), wait(10, tries, barrier.Lean), empty, strings.Repeat("a0", held(tries)))
		}
	}
	// The steps as the chapter has them.
	for way, steps := range map[barrier.Way]int{barrier.Eager: 20 * 2, barrier.Lean: 20 * 2, barrier.Rare: 20 + 3} {
		c := turn.NewCounter(99)
		if n, err := over(0).b.Wait(c, 9, 20, way); n != 0 || err != api.ErrEmpty || c.Steps() != steps {
			t.Error(way, n, err, c.Steps())
		}
	}
}

// TestClosed: where the alert is yes, that is found in the first step, be all far enough or not.
func TestClosed(t *testing.T) {
	for _, numbers := range [][]int64{{5}, {5, 3}, {5, 3, 4}} {
		h := over(numbers...)
		h.b.Alert(nil)
		for _, way := range ways() {
			for _, tries := range []int{-1, 1, 2, 9, 99} {
				for _, q := range extremes {
					checkLooks(t, h, fmt.Sprint("Wait for ", q, " by the way ", way), wait(q, tries, way), closed, "a")
				}
			}
		}
		h.b.Clear(nil)
		for _, way := range ways() {
			if got := wait(3, 3, way)(h, nil); got != number(slices.Min(numbers)) {
				t.Error("behind a Clear, by the way", way, got)
			}
		}
	}
}
