package cell_test

import (
	"math"
	"testing"

	"carillon/cell"
	"carillon/turn"
)

const (
	least    = math.MinInt64
	greatest = math.MaxInt64
)

// meddler counts the steps that are asked for; at some of them, right ahead of the step, something comes between.
type meddler struct {
	steps int
	at    map[int]func()
}

func (m *meddler) Step() {
	m.steps++
	if f := m.at[m.steps]; f != nil {
		f()
	}
}

// TestWordSteps: each call is one step, and what is done is done behind its Step: on the 40 that comes between.
func TestWordSteps(t *testing.T) {
	for _, x := range []struct {
		name   string
		call   func(w *cell.Word, s turn.Stepper) any
		answer any
		after  int64
	}{
		{"Load", func(w *cell.Word, s turn.Stepper) any { return w.Load(s) }, int64(40), 40},
		{"Store", func(w *cell.Word, s turn.Stepper) any { w.Store(s, 3); return nil }, nil, 3},
		{"Add", func(w *cell.Word, s turn.Stepper) any { return w.Add(s, 3) }, int64(43), 43},
		{"Add below 0", func(w *cell.Word, s turn.Stepper) any { return w.Add(s, -50) }, int64(-10), -10},
		{"Swap", func(w *cell.Word, s turn.Stepper) any { return w.Swap(s, 3) }, int64(40), 3},
		{"Cas", func(w *cell.Word, s turn.Stepper) any { return w.Cas(s, 40, 3) }, true, 3},
		{"Cas of the same", func(w *cell.Word, s turn.Stepper) any { return w.Cas(s, 40, 40) }, true, 40},
		{"Cas of what stood there", func(w *cell.Word, s turn.Stepper) any { return w.Cas(s, 7, 3) }, false, 40},
		{"Cas of what isn't there", func(w *cell.Word, s turn.Stepper) any { return w.Cas(s, 3, 40) }, false, 40},
	} {
		w := cell.NewWord(7)
		m := &meddler{at: map[int]func(){1: func() { w.Store(nil, 40) }}}
		if got := x.call(w, m); got != x.answer || w.Value() != x.after || m.steps != 1 {
			t.Error(x.name, got, w.Value(), m.steps)
		}
		v := cell.NewWord(40)
		if got := x.call(v, nil); got != x.answer || v.Value() != x.after {
			t.Error(x.name, "without a Stepper", got, v.Value())
		}
	}
}

func TestWordEdges(t *testing.T) {
	for _, v := range []int64{0, -1, 5, least, greatest} {
		w := cell.NewWord(v)
		if w.Value() != v || w.Load(nil) != v || !w.Cas(nil, v, v) || w.Swap(nil, v) != v {
			t.Error(v)
		}
	}
	w := cell.NewWord(greatest)
	if w.Add(nil, 1) != least || w.Add(nil, -1) != greatest || w.Add(nil, greatest) != -2 || w.Add(nil, least) != greatest-1 {
		t.Error("sums wrap around", w.Value())
	}
}

// TestWordValue: Value tells what each call has laid.
func TestWordValue(t *testing.T) {
	w := cell.NewWord(1)
	for i, lay := range []func(){
		func() {},
		func() { w.Store(nil, 2) },
		func() { w.Add(nil, 1) },
		func() { w.Swap(nil, 4) },
		func() { w.Cas(nil, 4, 5) },
		func() { w.Greatest(nil, 6) },
		func() { w.Bump(nil, 1, 7) },
		func() { w.Least(nil, 8); w.Add(nil, 1) },
	} {
		if lay(); w.Value() != int64(i)+1 {
			t.Error(i, w.Value())
		}
	}
}

func TestGreatestAndLeast(t *testing.T) {
	for _, x := range []struct {
		start, v, greatest, least int64
	}{
		{5, 6, 6, 5}, {5, 5, 5, 5}, {5, 4, 5, 4}, {-5, -6, -5, -6}, {-1, 0, 0, -1}, {0, -1, 0, -1},
		{least, greatest, greatest, least}, {greatest, least, greatest, least}, {least, least, least, least}, {greatest, greatest, greatest, greatest},
		{greatest - 1, greatest, greatest, greatest - 1}, {least + 1, least, least + 1, least},
	} {
		for name, call := range map[string]func(w *cell.Word, s turn.Stepper) (int64, bool){
			"Greatest": func(w *cell.Word, s turn.Stepper) (int64, bool) { return w.Greatest(s, x.v) },
			"Least":    func(w *cell.Word, s turn.Stepper) (int64, bool) { return w.Least(s, x.v) },
		} {
			want := x.greatest
			if name == "Least" {
				want = x.least
			}
			steps := 1
			if want != x.start {
				steps = 2
			}
			w, m := cell.NewWord(x.start), &meddler{}
			if n, ok := call(w, m); n != want || ok != (want != x.start) || w.Value() != want || m.steps != steps {
				t.Error(name, x, n, ok, w.Value(), m.steps)
			}
		}
	}
}

func TestBump(t *testing.T) {
	for _, x := range []struct {
		start, v, most, n int64
		ok                bool
	}{
		{5, 1, 6, 6, true}, {5, 1, 5, 5, false}, {5, 1, 4, 5, false}, {5, 2, 6, 5, false}, {5, 3, 9, 8, true},
		{5, 0, 5, 5, true}, {5, 0, 4, 5, false}, {5, -1, 4, 4, true}, {5, -1, 3, 5, false}, {5, -9, -4, -4, true}, {5, -9, -5, 5, false},
		{greatest, 1, greatest, greatest, false}, {greatest, 0, greatest, greatest, true}, {greatest - 1, 1, greatest, greatest, true}, {greatest, greatest, -1, greatest, false},
		{1, greatest, greatest, 1, false}, {0, greatest, greatest, greatest, true}, {-1, greatest, greatest, greatest - 1, true}, {least, greatest, -1, -1, true},
		{least, -1, greatest, least, false}, {least, -1, least, least, false}, {least, 0, least, least, true}, {least + 1, -1, least, least, true},
		{-1, least, greatest, -1, false}, {0, least, least, least, true}, {least, least, greatest, least, false}, {greatest, least, -1, -1, true}, {greatest, least, -2, greatest, false},
		{5, -1, greatest, 4, true}, {greatest, least, greatest, -1, true}, {5, 1, least, 5, false}, {-5, 1, least, -5, false}, {-5, -1, least, -5, false}, {least, 0, greatest, least, true},
	} {
		steps := 1
		if x.ok {
			steps = 2
		}
		w, m := cell.NewWord(x.start), &meddler{}
		if n, ok := w.Bump(m, x.v, x.most); n != x.n || ok != x.ok || w.Value() != x.n || m.steps != steps {
			t.Error(x, n, ok, w.Value(), m.steps)
		}
	}
}

// TestWordsComeBetween: what is laid between the load and the compare-and-swap is seen, and looked at anew.
func TestWordsComeBetween(t *testing.T) {
	toSeven := func(w *cell.Word, s turn.Stepper) (int64, bool) { return w.Greatest(s, 7) }
	toThree := func(w *cell.Word, s turn.Stepper) (int64, bool) { return w.Least(s, 3) }
	byTwo := func(w *cell.Word, s turn.Stepper) (int64, bool) { return w.Bump(s, 2, 9) }
	for _, x := range []struct {
		name  string
		call  func(w *cell.Word, s turn.Stepper) (int64, bool)
		lays  map[int]int64 // at which step what comes between
		n     int64
		ok    bool
		steps int
	}{
		{"Greatest, ahead of the load", toSeven, map[int]int64{1: 7}, 7, false, 1},
		{"Greatest, less", toSeven, map[int]int64{2: 6}, 7, true, 4},
		{"Greatest, more", toSeven, map[int]int64{2: 9}, 9, false, 3},
		{"Greatest, the same", toSeven, map[int]int64{2: 5}, 7, true, 2},
		{"Greatest, again and again", toSeven, map[int]int64{2: 6, 4: 4, 6: 3, 8: 8}, 8, false, 9},
		{"Greatest, behind a failure's load", toSeven, map[int]int64{2: 6, 3: 12}, 12, false, 3},
		{"Least, ahead of the load", toThree, map[int]int64{1: 3}, 3, false, 1},
		{"Least, more", toThree, map[int]int64{2: 4}, 3, true, 4},
		{"Least, less", toThree, map[int]int64{2: 1}, 1, false, 3},
		{"Least, the same", toThree, map[int]int64{2: 5}, 3, true, 2},
		{"Least, again and again", toThree, map[int]int64{2: 6, 4: 4, 6: 2}, 2, false, 7},
		{"Bump, ahead of the load", byTwo, map[int]int64{1: 7}, 9, true, 2},
		{"Bump, room", byTwo, map[int]int64{2: 7}, 9, true, 4},
		{"Bump, no room", byTwo, map[int]int64{2: 8}, 8, false, 3},
		{"Bump, the same", byTwo, map[int]int64{2: 5}, 7, true, 2},
		{"Bump, again and again", byTwo, map[int]int64{2: 6, 4: 1, 6: 0}, 2, true, 8},
	} {
		w := cell.NewWord(5)
		m := &meddler{at: map[int]func(){}}
		for step, v := range x.lays {
			m.at[step] = func() { w.Store(nil, v) }
		}
		if n, ok := x.call(w, m); n != x.n || ok != x.ok || w.Value() != x.n || m.steps != x.steps {
			t.Error(x.name, n, ok, w.Value(), m.steps)
		}
	}
}

func TestZeroAndNilWord(t *testing.T) {
	var zero cell.Word
	if zero.Value() != 0 || zero.Load(nil) != 0 || zero.Add(nil, 2) != 2 || zero.Value() != 2 || new(cell.Word).Swap(nil, 3) != 0 || !new(cell.Word).Cas(nil, 0, 1) {
		t.Error("the zero Word", zero.Value())
	}
	var none *cell.Word
	m := &meddler{}
	for _, v := range []int64{0, 1, -1, least, greatest} {
		none.Store(m, v)
		if none.Value() != 0 || none.Load(m) != 0 || none.Add(m, v) != 0 || none.Swap(m, v) != 0 || none.Cas(m, 0, v) || none.Cas(m, v, 0) {
			t.Error(v)
		}
		for _, call := range []func() (int64, bool){
			func() (int64, bool) { return none.Greatest(m, v) },
			func() (int64, bool) { return none.Least(m, v) },
			func() (int64, bool) { return none.Bump(m, v, 5) },
			func() (int64, bool) { return none.Bump(nil, 5, v) },
		} {
			if n, ok := call(); n != 0 || ok {
				t.Error(v, n, ok)
			}
		}
	}
	if m.steps != 0 || none.Value() != 0 {
		t.Error("steps of nil", m.steps)
	}
}

// TestWordNilCounter: a nil *Counter is a Stepper that isn't nil.
func TestWordNilCounter(t *testing.T) {
	var c *turn.Counter
	w := cell.NewWord(5)
	if n, ok := w.Greatest(c, 6); n != 6 || !ok || w.Add(c, 1) != 7 || cell.NewFlag(false).Load(c) || cell.NewBox(7).Load(c).Value() != 7 {
		t.Error(n, ok, w.Value())
	}
}

// TestEndedAtAStep: a thread that is ended ahead of a step hasn't done it.
func TestEndedAtAStep(t *testing.T) {
	w, f, b := cell.NewWord(5), cell.NewFlag(true), cell.NewBox(5)
	h := b.Load(nil)
	for i, call := range []func(s turn.Stepper){
		func(s turn.Stepper) { w.Store(s, 6) },
		func(s turn.Stepper) { w.Add(s, 6) },
		func(s turn.Stepper) { w.Swap(s, 6) },
		func(s turn.Stepper) { w.Cas(s, 5, 6) },
		func(s turn.Stepper) { f.Clear(s) },
		func(s turn.Stepper) { b.Store(s, 6) },
		func(s turn.Stepper) { b.Swap(s, 6) },
		func(s turn.Stepper) { b.Cas(s, h, 6) },
	} {
		if turn.Alone(turn.NewCounter(0), call) {
			t.Error(i, "no step")
		}
	}
	for i, call := range []func(s turn.Stepper){
		func(s turn.Stepper) { w.Greatest(s, 6) },
		func(s turn.Stepper) { w.Least(s, 4) },
		func(s turn.Stepper) { w.Bump(s, 1, 9) },
	} {
		if turn.Alone(turn.NewCounter(1), call) {
			t.Error(i, "one step")
		}
	}
	if w.Value() != 5 || !f.Value() || b.Value() != 5 || !b.Cas(nil, h, 6) {
		t.Error(w.Value(), f.Value(), b.Value())
	}
}

const crowd = 8

// together calls f as so many goroutines, each with its number.
func together(f func(n int)) []bool {
	threads := make([]func(turn.Stepper), crowd)
	for n := range threads {
		threads[n] = func(turn.Stepper) { f(n) }
	}
	return turn.Go(threads)
}

func total(counts []int64) (all int64) {
	for _, c := range counts {
		all += c
	}
	return all
}

// The free tests have loops as tight as they may be, so that threads do meet.
const each = 20000

func TestAddFree(t *testing.T) {
	w := cell.NewWord(0)
	together(func(n int) {
		for i := range int64(each) {
			w.Add(nil, i-int64(n))
		}
	})
	if want := int64(crowd*each*(each-1)/2 - each*crowd*(crowd-1)/2); w.Value() != want {
		t.Error(w.Value(), want)
	}
}

// TestSwapFree: each number that is laid is told once, or stands there at the end.
func TestSwapFree(t *testing.T) {
	w := cell.NewWord(0)
	told := make([]int64, crowd)
	together(func(n int) {
		sum := int64(0)
		for i := range int64(each) {
			sum += w.Swap(nil, i*crowd+int64(n))
		}
		told[n] = sum
	})
	if all := int64(crowd * each); total(told)+w.Value() != all*(all-1)/2 {
		t.Error(total(told), w.Value())
	}
}

func TestCasFree(t *testing.T) {
	w := cell.NewWord(0)
	together(func(int) {
		for range each {
			for x := w.Load(nil); !w.Cas(nil, x, x+1); x = w.Load(nil) {
			}
		}
	})
	if w.Value() != crowd*each {
		t.Error(w.Value())
	}
}

func TestGreatestAndLeastFree(t *testing.T) {
	high, low := cell.NewWord(-7), cell.NewWord(7)
	rises := make([]int64, crowd)
	together(func(n int) {
		for i := range int64(each) {
			v := (i*37+int64(n)*11)%each + 1
			now, ok := high.Greatest(nil, v)
			if now < v || ok && now != v {
				t.Error("Greatest", v, now, ok)
			}
			if ok {
				rises[n]++
			}
			if now, ok := low.Least(nil, -v); now > -v || ok && now != -v {
				t.Error("Least", -v, now, ok)
			}
		}
	})
	if high.Value() != each || low.Value() != -each || total(rises) == 0 || total(rises) > each {
		t.Error(high.Value(), low.Value(), total(rises))
	}
}

// TestBumpFree: it is bumped up to its most, as often as it has room.
func TestBumpFree(t *testing.T) {
	w := cell.NewWord(1)
	done := make([]int64, crowd)
	together(func(n int) {
		for range each {
			if now, ok := w.Bump(nil, 3, 3*each); ok {
				done[n]++
			} else if now != 3*each-2 {
				t.Error(now)
			}
		}
	})
	if w.Value() != 3*each-2 || total(done) != each-1 {
		t.Error(w.Value(), total(done))
	}
}
