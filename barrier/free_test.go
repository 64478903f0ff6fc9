package barrier_test

import (
	"runtime"
	"slices"
	"sync/atomic"
	"testing"

	"carillon/api"
	"carillon/barrier"
	"carillon/cell"
	"carillon/turn"
)

// line is workers upon things that lie in unshared memory: the first one makes them, and each of the others works upon what those behind whom it stands have made of them; by a schedule or freely. How far each has come is a word.
type line struct {
	t       *testing.T
	behind  [][]int
	made    [][]int64
	come    []cell.Word
	bars    []*barrier.Barrier
	stepped bool
}

// newLine has a worker for each list of those behind whom one stands.
func newLine(t *testing.T, things int, behind [][]int) *line {
	l := &line{t: t, behind: behind, come: make([]cell.Word, len(behind))}
	for worker, others := range behind {
		l.come[worker].Store(nil, -1)
		l.made = append(l.made, make([]int64, things))
		var all []barrier.Source
		for _, other := range others {
			all = append(all, &l.come[other])
		}
		l.bars = append(l.bars, barrier.New(&l.come[0], all...))
	}
	return l
}

// rest lets others go on, where a schedule doesn't.
func (l *line) rest() {
	if !l.stepped {
		runtime.Gosched()
	}
}

// work is what a worker makes of a thing.
func (l *line) work(worker int, i int64) int64 {
	if worker == 0 {
		return i + 1
	}
	sum := int64(worker)
	for _, other := range l.behind[worker] {
		sum += l.made[other][i]
	}
	return sum + l.made[0][i]
}

func (l *line) do(s turn.Stepper, worker int) {
	things := int64(len(l.made[worker]))
	for next, tries := int64(0), 0; next < things; tries++ {
		high := min(next+next%5, things-1)
		if worker > 0 {
			n, err := l.bars[worker].Wait(s, next, 1+tries%9, ways()[tries%3])
			if err == api.ErrEmpty && n == 0 && tries < 1<<24 {
				l.rest()
				continue
			}
			if err != api.OK || n < next || n >= things {
				l.t.Error("worker", worker, "waits for", next, "and has", n, err)
				return
			}
			high = n
		}
		for ; next <= high; next++ {
			l.made[worker][next] = l.work(worker, next)
		}
		l.come[worker].Store(s, high)
	}
}

func (l *line) threads() []func(s turn.Stepper) {
	var all []func(s turn.Stepper)
	for worker := range l.behind {
		all = append(all, func(s turn.Stepper) { l.do(s, worker) })
	}
	return all
}

// check: each thing was worked upon when those ahead had worked upon it.
func (l *line) check() {
	l.t.Helper()
	for worker, made := range l.made {
		for i, n := range made {
			if want := l.work(worker, int64(i)); n != want {
				l.t.Fatal("worker", worker, "has made", n, "of", i, "and not", want)
			}
		}
		if n := l.come[worker].Value(); n != int64(len(made)-1) || l.bars[worker].Limit(nil) != n {
			l.t.Fatal("worker", worker, "has come to", n)
		}
	}
}

func lines() [][][]int {
	return [][][]int{
		{nil, nil},
		{nil, {0}, {1}, {2}},
		{nil, nil, nil, {1, 2}},
		{nil, {}, {1}, {1}, {2, 3}, {4, 1}},
		{nil, nil, nil, nil, nil, {1, 2, 3, 4}, {5}},
	}
}

// TestLine is P15.5 of workers who go by what they wait for, by schedules.
func TestLine(t *testing.T) {
	c := dice(6)
	for range 300 {
		all := lines()
		l := newLine(t, 30, all[c.Intn(len(all))])
		l.stepped = true
		threads := l.threads()
		_, stuck, broken := turn.Over(threads, c.schedule(0, len(threads)-1, 200), api.MostSteps)
		if stuck || slices.Contains(broken, true) {
			t.Fatal(stuck, broken)
		}
		l.check()
	}
}

// TestFreeLine is the same of free threads.
func TestFreeLine(t *testing.T) {
	for _, behind := range lines() {
		l := newLine(t, 20000, behind)
		if broken := turn.Go(l.threads()); slices.Contains(broken, true) {
			t.Error(behind, broken)
		}
		l.check()
	}
}

// TestFreeAlert: who waits for what never comes is let go by an alert, which one of all is told to have raised.
func TestFreeAlert(t *testing.T) {
	for round := range 100 {
		h := over(5, 3)
		var raised, let atomic.Int64
		together(func(thread int) {
			if thread < 3 {
				for range thread * 50 {
					runtime.Gosched()
				}
				if h.b.Alert(nil) {
					raised.Add(1)
				}
				return
			}
			for tries := range 1 << 24 {
				n, err := h.b.Wait(nil, 4, 1+tries%99, ways()[(thread+tries)%3])
				if n != 0 || err != api.ErrEmpty && err != api.ErrClosed {
					t.Error(round, thread, n, err)
					return
				}
				if err == api.ErrClosed {
					let.Add(1)
					return
				}
				runtime.Gosched()
			}
		})
		if raised.Load() != 1 || let.Load() != crowd-3 || !h.b.Alerted(nil) {
			t.Fatal(round, raised.Load(), let.Load())
		}
	}
}

// TestFreeAlerts is P6: each alert that is told to be raised is raised by one, and cleared by one.
func TestFreeAlerts(t *testing.T) {
	const each = 20000
	b := barrier.New(nil)
	var raised, cleared atomic.Int64
	together(func(thread int) {
		for i := range each {
			if (thread+i)%2 == 0 {
				if b.Alert(nil) {
					raised.Add(1)
				}
			} else if b.Clear(nil) {
				cleared.Add(1)
			}
		}
	})
	left := int64(0)
	if b.Alerted(nil) {
		left = 1
	}
	if raised.Load()-cleared.Load() != left || cleared.Load() == 0 {
		t.Error(raised.Load(), cleared.Load(), left)
	}
}

// TestFreeGrows is P15.5 of one who looks while others go on: what was reached once is reached ever after, and each Wait for it is OK.
func TestFreeGrows(t *testing.T) {
	const each = 20000
	h := over(slices.Repeat([]int64{-1}, crowd/2)...)
	together(func(thread int) {
		if thread < len(h.words) {
			for n := range int64(each) {
				h.words[thread].Store(nil, n*int64(1+thread))
			}
			return
		}
		last := int64(-1)
		for tries := 0; last < each-1; tries++ {
			n := h.b.Limit(nil)
			if n < last || tries > 1<<24 {
				t.Error(n, "behind", last)
				return
			}
			last = n
			way := ways()[tries%3]
			if got, err := h.b.Wait(nil, n, len(h.words), way); got < n || err != api.OK {
				t.Error(n, "was there, and", way, "tells", got, err)
				return
			}
			if got, err := h.b.Wait(nil, n+1, 2, way); err == api.OK && got <= n || err != api.OK && (got != 0 || err != api.ErrEmpty) {
				t.Error(n+1, way, got, err)
				return
			}
		}
	})
	if n := h.b.Limit(nil); n != each-1 {
		t.Error(n)
	}
}

// TestFreeThreads: what Free's threads are told fits together, and what they leave too.
func TestFreeThreads(t *testing.T) {
	c, reached, given := dice(3), 0, 0
	for range 200 {
		words := c.counts(1, 6)
		threads := c.growing(len(words), 200)
		got := barrier.Free(words, threads)
		if len(got.Order) != 0 || got.Stuck || len(got.Answers) != len(threads) || len(got.State) != len(words)+1 {
			t.Fatal(len(got.Order), got.Stuck, len(got.Answers), len(got.State))
		}
		sums, least := slices.Clone(words), slices.Min(got.State[:len(words)])
		for i, list := range got.Answers {
			if len(list) != len(threads[i]) {
				t.Fatal(i, len(list))
			}
			for k, a := range list {
				switch o := threads[i][k]; {
				case o.Kind == opAdd:
					sums[o.A] += o.B
				case o.Kind == opLimit && (!a.OK || a.N < slices.Min(words) || a.N > least),
					o.Kind == opWait && a.OK && (a.N < o.A || a.N > least):
					t.Fatal(o, a, least)
				case o.Kind == opWait && a.OK:
					reached++
				case o.Kind == opWait:
					given++
				}
			}
		}
		// P7: nothing that was added is lost.
		if !slices.Equal(sums, got.State[:len(words)]) {
			t.Fatal(sums, got.State)
		}
	}
	if reached < 1000 || given < 1000 {
		t.Error(reached, given)
	}
}
