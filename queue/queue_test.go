package queue_test

import (
	"math"
	"runtime"
	"slices"
	"testing"

	"carillon/api"
	"carillon/queue"
	"carillon/turn"
)

const crowd = 8

// told is what a call answers, of whichever kind.
type told struct {
	n   int64
	err api.Errno
	yes bool
}

type call = func(q *queue.Queue, s turn.Stepper) told

func put(v int64) call {
	return func(q *queue.Queue, s turn.Stepper) told {
		q.Put(s, v)
		return told{}
	}
}

func take(q *queue.Queue, s turn.Stepper) told {
	v, err := q.Take(s)
	return told{n: v, err: err}
}

func empty(q *queue.Queue, s turn.Stepper) told { return told{yes: q.Empty(s)} }

// half puts v, and is ended behind so many steps; behind its S4 the tail lies behind.
func half(v int64, steps int) call {
	return func(q *queue.Queue, _ turn.Stepper) told {
		turn.Alone(turn.NewCounter(steps), func(s turn.Stepper) { q.Put(s, v) })
		return told{}
	}
}

// all does one behind the other, and tells what the last one tells.
func all(calls ...call) call {
	return func(q *queue.Queue, s turn.Stepper) told {
		var last told
		for _, do := range calls {
			last = do(q, s)
		}
		return last
	}
}

// lagging makes a queue whose tail lies behind the last of these values.
func lagging(values ...int64) *queue.Queue {
	last := len(values) - 1
	q := queue.New(values[:last]...)
	half(values[last], 3)(q, nil)
	return q
}

// look is all that a thread that is alone sees: by how many boxes the tail lies behind, and the values.
func look(q *queue.Queue) []int64 { return append([]int64{int64(q.Behind())}, q.Values()...) }

// check holds a call's answer, its steps, when it is alone, and what it leaves against these.
func check(t *testing.T, q *queue.Queue, name string, do call, answer told, steps int, after ...int64) {
	t.Helper()
	before, counter := look(q), turn.NewCounter(api.MostSteps)
	if got := do(q, counter); got != answer || counter.Steps() != steps || !slices.Equal(look(q), after) {
		t.Errorf("%s of %v: %+v in %d steps, leaves %v; want %+v in %d, %v", name, before, got, counter.Steps(), look(q), answer, steps, after)
	}
}

// TestNew is P7.1: what stands there at first; the tail is the last box, so that the next Put has four steps.
func TestNew(t *testing.T) {
	for _, values := range [][]int64{nil, {}, {0}, {5}, {5, 6}, {6, 5}, {7, 7, 7}, {math.MinInt64, 0, math.MaxInt64, -1}, slices.Repeat([]int64{3, 1, 2}, 30000)} {
		q := queue.New(values...)
		if got := look(q); got[0] != 0 || !slices.Equal(got[1:], values) || q.Empty(nil) != (len(values) == 0) {
			t.Error(len(values), got[0])
		}
		check(t, q, "Put", put(8), told{}, 4, slices.Concat([]int64{0}, values, []int64{8})...)
		for i, v := range append(slices.Clone(values), 8) {
			if got := take(q, nil); got != (told{n: v}) {
				t.Fatal(i, got)
			}
		}
		check(t, q, "Take", take, told{err: api.ErrEmpty}, 3, 0)
	}
}

// TestNewIsApart: what is handed in stays as it is and isn't kept, and no two queues share anything.
func TestNewIsApart(t *testing.T) {
	room := []int64{1, 2, 3, 4}
	one, two := queue.New(room[:2]...), queue.New(room[:2]...)
	one.Put(nil, 9)
	one.Take(nil)
	if !slices.Equal(room, []int64{1, 2, 3, 4}) {
		t.Error(room)
	}
	clear(room)
	if !slices.Equal(look(one), []int64{0, 2, 9}) || !slices.Equal(look(two), []int64{0, 1, 2}) {
		t.Error(look(one), look(two))
	}
}

// TestAlone is P7.2 to P7.4 of a thread that is alone, by steps and by what is left.
func TestAlone(t *testing.T) {
	q := queue.New()
	check(t, q, "Take of none", take, told{err: api.ErrEmpty}, 3, 0)
	check(t, q, "Empty of none", empty, told{yes: true}, 2, 0)
	check(t, q, "Put", put(5), told{}, 4, 0, 5)
	check(t, q, "Empty", empty, told{}, 2, 0, 5)
	check(t, q, "Put of the same", put(5), told{}, 4, 0, 5, 5)
	check(t, q, "Put of 0", put(0), told{}, 4, 0, 5, 5, 0)
	check(t, q, "Take", take, told{n: 5}, 4, 0, 5, 0)
	check(t, q, "Put of the least", put(math.MinInt64), told{}, 4, 0, 5, 0, math.MinInt64)
	check(t, q, "Take", take, told{n: 5}, 4, 0, 0, math.MinInt64)
	check(t, q, "Take of 0", take, told{}, 4, 0, math.MinInt64)
	check(t, q, "Take of the least", take, told{n: math.MinInt64}, 4, 0)
	check(t, q, "Take of none again", take, told{err: api.ErrEmpty}, 3, 0)
	check(t, q, "Empty again", empty, told{yes: true}, 2, 0)
	check(t, q, "Put of the greatest", put(math.MaxInt64), told{}, 4, 0, math.MaxInt64)
	check(t, q, "Take of the greatest", take, told{n: math.MaxInt64}, 4, 0)
}

// TestHelp: a tail that lies behind is moved on by who puts, and by who takes what is behind it, and is left so otherwise.
func TestHelp(t *testing.T) {
	check(t, lagging(5), "Put", put(9), told{}, 7, 0, 5, 9)
	check(t, lagging(5), "Take", take, told{n: 5}, 8, 0)
	check(t, lagging(5), "Empty", empty, told{}, 2, 1, 5)
	check(t, lagging(5, 6), "Put", put(9), told{}, 7, 0, 5, 6, 9)
	check(t, lagging(5, 6), "Take", take, told{n: 5}, 4, 1, 6)
	check(t, lagging(5, 6), "two Takes", all(take, take), told{n: 6}, 12, 0)
	check(t, lagging(5, 6), "Takes up to none", all(take, take, take), told{err: api.ErrEmpty}, 15, 0)
}

// TestAsAList: the values are what puts and takes one behind the other leave.
func TestAsAList(t *testing.T) {
	c := dice(9)
	q, want := queue.New(), []int64(nil)
	for i := range 20000 {
		if c.Intn(2*len(want)+20) < 20 {
			v := int64(c.between(-3, 3))
			q.Put(nil, v)
			want = append(want, v)
		} else if got := take(q, nil); got != (told{n: want[0]}) {
			t.Fatal(i, got, want[0])
		} else {
			want = want[1:]
		}
		if q.Behind() != 0 || !slices.Equal(q.Values(), want) || q.Empty(nil) != (len(want) == 0) {
			t.Fatal(i, look(q), want)
		}
	}
}

// TestValuesAreNew: no answer shares memory with another one, or with the queue.
func TestValuesAreNew(t *testing.T) {
	q := queue.New(1, 2, 3)
	first, second := q.Values(), q.Values()
	whole := first[:cap(first)]
	for i := range whole {
		whole[i] = -1
	}
	if !slices.Equal(second, []int64{1, 2, 3}) || !slices.Equal(q.Values(), []int64{1, 2, 3}) {
		t.Error(second, q.Values())
	}
	q.Take(nil)
	if !slices.Equal(second, []int64{1, 2, 3}) {
		t.Error("an answer changes with the queue", second)
	}
}

// watcher logs ahead of each step what is to be seen by then; at some of them something comes between behind the look.
type watcher struct {
	queue *queue.Queue
	log   [][]int64
	at    map[int]func()
}

func (w *watcher) Step() {
	w.log = append(w.log, look(w.queue))
	if f := w.at[len(w.log)]; f != nil {
		f()
	}
}

// TestStepsInOrder: what is to be seen ahead of each step, and behind the last: Step is called right ahead of it, and without a Stepper the answers are the same.
func TestStepsInOrder(t *testing.T) {
	five, late := []int64{0, 5}, []int64{1, 5}
	for _, x := range []struct {
		name   string
		fresh  func() *queue.Queue
		call   call
		answer told
		states [][]int64 // ahead of each step, and at the end
	}{
		{"Put", func() *queue.Queue { return queue.New(5) }, put(9), told{}, [][]int64{five, five, five, {1, 5, 9}, {0, 5, 9}}},
		{"Put, the tail behind", func() *queue.Queue { return lagging(5) }, put(9), told{}, [][]int64{late, late, late, five, five, five, {1, 5, 9}, {0, 5, 9}}},
		{"Take", func() *queue.Queue { return queue.New(5) }, take, told{n: 5}, [][]int64{five, five, five, five, {0}}},
		{"Take, the tail behind", func() *queue.Queue { return lagging(5) }, take, told{n: 5}, [][]int64{late, late, late, late, five, five, five, five, {0}}},
		{"Take, the tail behind at another box", func() *queue.Queue { return lagging(4, 5) }, take, told{n: 4}, append(slices.Repeat([][]int64{{1, 4, 5}}, 4), late)},
		{"Take of none", func() *queue.Queue { return queue.New() }, take, told{err: api.ErrEmpty}, slices.Repeat([][]int64{{0}}, 4)},
		{"Empty", func() *queue.Queue { return queue.New(5) }, empty, told{}, [][]int64{five, five, five}},
		{"Empty, the tail behind", func() *queue.Queue { return lagging(5) }, empty, told{}, [][]int64{late, late, late}},
		{"Empty of none", func() *queue.Queue { return queue.New() }, empty, told{yes: true}, slices.Repeat([][]int64{{0}}, 3)},
	} {
		q := x.fresh()
		w := &watcher{queue: q}
		if got := x.call(q, w); got != x.answer || !slices.EqualFunc(append(w.log, look(q)), x.states, slices.Equal) {
			t.Error(x.name, got, w.log, look(q))
		}
		q = x.fresh()
		if got := x.call(q, nil); got != x.answer || !slices.Equal(look(q), x.states[len(x.states)-1]) {
			t.Error(x.name, "without a Stepper", got, look(q))
		}
	}
}

// between is a call at one of whose steps another one comes between.
type between struct {
	name   string
	queue  *queue.Queue
	call   call
	ahead  int
	other  call
	answer told
	steps  int
	after  []int64
}

func (x between) check(t *testing.T) {
	t.Helper()
	w := &watcher{queue: x.queue, at: map[int]func(){x.ahead: func() { x.other(x.queue, nil) }}}
	if got := x.call(x.queue, w); got != x.answer || len(w.log) != x.steps || !slices.Equal(look(x.queue), x.after) {
		t.Error(x.name, got, len(w.log), look(x.queue))
	}
}

// TestBetweenPut: what another one does right ahead of a step of Put is what that step finds.
func TestBetweenPut(t *testing.T) {
	for _, x := range []between{
		{"another one ahead of S1", queue.New(), put(9), 1, put(8), told{}, 4, []int64{0, 8, 9}},
		{"half of one ahead of S1", queue.New(), put(9), 1, half(8, 3), told{}, 7, []int64{0, 8, 9}},
		{"another one ahead of S2", queue.New(), put(9), 2, put(8), told{}, 7, []int64{0, 8, 9}},
		{"half of one ahead of S2", queue.New(), put(9), 2, half(8, 3), told{}, 7, []int64{0, 8, 9}},
		{"one and a half ahead of S2", queue.New(), put(9), 2, all(put(8), half(7, 3)), told{}, 10, []int64{0, 8, 7, 9}},
		{"another one ahead of S3", lagging(5), put(9), 3, put(8), told{}, 7, []int64{0, 5, 8, 9}},
		{"half of one ahead of S3", lagging(5), put(9), 3, half(8, 6), told{}, 10, []int64{0, 5, 8, 9}},
		{"another one ahead of S4", queue.New(), put(9), 3, put(8), told{}, 7, []int64{0, 8, 9}},
		{"half of one ahead of S4", queue.New(), put(9), 3, half(8, 3), told{}, 10, []int64{0, 8, 9}},
		{"put and taken ahead of S4", queue.New(), put(9), 3, all(put(8), take), told{}, 7, []int64{0, 9}},
		{"all taken ahead of S4", queue.New(5), put(9), 3, take, told{}, 4, []int64{0, 9}},
		{"another one ahead of S5", queue.New(), put(9), 4, put(8), told{}, 4, []int64{0, 9, 8}},
		{"half of one ahead of S5", queue.New(), put(9), 4, half(8, 6), told{}, 4, []int64{1, 9, 8}},
		{"another value taken ahead of S5", queue.New(5), put(9), 4, take, told{}, 4, []int64{0, 9}},
		{"its own value taken ahead of S5", queue.New(), put(9), 4, take, told{}, 4, []int64{0}},
		{"all taken and put ahead of S5", queue.New(5), put(9), 4, all(take, take, put(7)), told{}, 4, []int64{0, 7}},
	} {
		x.check(t)
	}
}

// TestBetweenTakeAndEmpty: the same of the steps of Take and Empty.
func TestBetweenTakeAndEmpty(t *testing.T) {
	gone := told{err: api.ErrEmpty}
	for _, x := range []between{
		{"Take, taken ahead of S1", queue.New(5, 6), take, 1, take, told{n: 6}, 4, []int64{0}},
		{"Take, put ahead of S1", queue.New(), take, 1, put(7), told{n: 7}, 4, []int64{0}},
		{"Take, taken ahead of S2", queue.New(5, 6), take, 2, take, told{n: 6}, 8, []int64{0}},
		{"Take, put ahead of S2", queue.New(), take, 2, put(7), told{n: 7}, 4, []int64{0}},
		{"Take, taken and half put ahead of S2", queue.New(5), take, 2, all(take, half(7, 3)), told{n: 7}, 12, []int64{0}},
		{"Take, taken ahead of S3", queue.New(5, 6), take, 3, take, told{n: 6}, 8, []int64{0}},
		{"Take, put ahead of S3", queue.New(), take, 3, put(7), told{n: 7}, 8, []int64{0}},
		{"Take, half put ahead of S3", queue.New(), take, 3, half(7, 3), told{n: 7}, 8, []int64{0}},
		{"Take, put and taken ahead of S3", queue.New(), take, 3, all(put(7), take), gone, 7, []int64{0}},
		{"Take, taken ahead of S4", lagging(5), take, 4, take, gone, 7, []int64{0}},
		{"Take, put ahead of S4", lagging(5), take, 4, put(7), told{n: 5}, 8, []int64{0, 7}},
		{"Take, half put ahead of S4", lagging(5), take, 4, half(7, 6), told{n: 5}, 8, []int64{1, 7}},
		{"Take, taken ahead of S5", queue.New(5, 6), take, 4, take, told{n: 6}, 8, []int64{0}},
		{"Take, all taken ahead of S5", queue.New(5), take, 4, take, gone, 7, []int64{0}},
		{"Take, the same value again ahead of S5", queue.New(5), take, 4, all(take, put(5)), told{n: 5}, 8, []int64{0}},
		{"Take, put ahead of S5", queue.New(5), take, 4, put(7), told{n: 5}, 4, []int64{0, 7}},
		{"Take, half put ahead of S5", queue.New(5), take, 4, half(7, 3), told{n: 5}, 4, []int64{1, 7}},
		{"Empty, taken ahead of S1", queue.New(5), empty, 1, take, told{yes: true}, 2, []int64{0}},
		{"Empty, put ahead of S1", queue.New(), empty, 1, put(7), told{}, 2, []int64{0, 7}},
		{"Empty, taken ahead of S2", queue.New(5), empty, 2, take, told{}, 2, []int64{0}},
		{"Empty, put ahead of S2", queue.New(), empty, 2, put(7), told{}, 2, []int64{0, 7}},
		{"Empty, half put ahead of S2", queue.New(), empty, 2, half(7, 3), told{}, 2, []int64{1, 7}},
		{"Empty, put and taken ahead of S2", queue.New(), empty, 2, all(put(7), take), told{}, 2, []int64{0}},
	} {
		x.check(t)
	}
}

// TestEachTryAgain: Put and Take begin again as often as another one comes between.
func TestEachTryAgain(t *testing.T) {
	for _, x := range []struct {
		name   string
		call   call
		other  func(i int64) call
		every  int // how many steps lie from one compare-and-swap that fails to the next
		answer told
		after  []int64
	}{
		{"Put", put(9), func(i int64) call { return put(i) }, 3, told{}, []int64{0, 5, 6, 0, 1, 2, 3, 9}},
		{"Take", take, func(i int64) call { return all(put(i), take) }, 4, told{n: 2}, []int64{0, 3}},
	} {
		q := queue.New(5, 6)
		w := &watcher{queue: q, at: map[int]func(){}}
		for i := range 4 {
			w.at[x.every*(i+1)] = func() { x.other(int64(i))(q, nil) }
		}
		if got := x.call(q, w); got != x.answer || len(w.log) != 4*x.every+4 || !slices.Equal(look(q), x.after) {
			t.Error(x.name, got, len(w.log), look(q))
		}
	}
}

// TestEndedWithin: a thread that is ended at a step has done those ahead of it, and nothing that lies behind; the others go on without it.
func TestEndedWithin(t *testing.T) {
	five, late, both := []int64{0, 5}, []int64{1, 5}, []int64{1, 5, 9}
	for _, x := range []struct {
		name  string
		fresh func() *queue.Queue
		call  call
		after [][]int64 // by how many steps it may do
	}{
		{"Put", func() *queue.Queue { return queue.New(5) }, put(9), [][]int64{five, five, five, both}},
		{"Put, the tail behind", func() *queue.Queue { return lagging(5) }, put(9), [][]int64{late, late, late, five, five, five, both}},
		{"Take", func() *queue.Queue { return queue.New(5) }, take, [][]int64{five, five, five, five}},
		{"Take, the tail behind", func() *queue.Queue { return lagging(5) }, take, [][]int64{late, late, late, late, five, five, five, five}},
		{"Empty", func() *queue.Queue { return queue.New(5) }, empty, [][]int64{five, five}},
	} {
		for most, after := range x.after {
			q := x.fresh()
			if turn.Alone(turn.NewCounter(most), func(s turn.Stepper) { x.call(q, s) }) || !slices.Equal(look(q), after) {
				t.Error(x.name, most, look(q))
			}
			q.Put(nil, 7)
			for i, v := range append(slices.Clone(after[1:]), 7) {
				if got := take(q, nil); got != (told{n: v}) {
					t.Error(x.name, most, i, got)
				}
			}
			check(t, q, "Take", take, told{err: api.ErrEmpty}, 3, 0)
		}
	}
}

// TestNone is P7.9: a nil and the zero Queue are no queues, whatever is done; a Step would end the thread.
func TestNone(t *testing.T) {
	for name, q := range map[string]*queue.Queue{"nil": nil, "zero": {}} {
		for range 2 {
			for what, x := range map[string]struct {
				call   call
				answer told
			}{
				"Put": {put(5), told{}}, "Put of 0": {put(0), told{}}, "Take": {take, told{err: api.ErrNone}}, "Empty": {empty, told{yes: true}},
			} {
				if back := turn.Alone(turn.NewCounter(0), func(s turn.Stepper) {
					if got, bare := x.call(q, s), x.call(q, nil); got != x.answer || bare != x.answer {
						t.Error(name, what, got, bare)
					}
				}); !back {
					t.Error(name, what, "has done a step, or has panicked")
				}
			}
			if q.Behind() != 0 || len(q.Values()) != 0 {
				t.Error(name, q.Behind(), q.Values())
			}
		}
	}
}

// TestKeepsNoMore: what has been taken is kept no more, however much goes through.
func TestKeepsNoMore(t *testing.T) {
	q := queue.New()
	inUse := func() int64 {
		var now runtime.MemStats
		runtime.GC()
		runtime.ReadMemStats(&now)
		return int64(now.HeapAlloc)
	}
	before := inUse()
	for i := range int64(1 << 20) {
		q.Put(nil, i)
		q.Take(nil)
	}
	if grown := inUse() - before; grown > 4<<20 {
		t.Error(grown, "bytes more are in use")
	}
	if !q.Empty(nil) {
		t.Error(q.Values())
	}
}

// together lets so many goroutines go at one time.
func together(do func(n int)) {
	threads := make([]func(s turn.Stepper), crowd)
	for n := range threads {
		threads[n] = func(turn.Stepper) { do(n) }
	}
	turn.Go(threads)
}

// checkRise holds what one thread has taken against P7.7: what each thread has put in comes in its order; a value is its thread's number times each, and which one.
func checkRise(t *testing.T, each int64, taken []int64) {
	t.Helper()
	last := map[int64]int64{}
	for _, v := range taken {
		from := v / each
		if before, there := last[from]; there && before >= v {
			t.Error(v, "behind", before)
			return
		}
		last[from] = v
	}
}

// TestFreeCrowd is P7.7 of free threads: all put and take at one time.
func TestFreeCrowd(t *testing.T) {
	const each = 30000
	for range 3 {
		q := queue.New()
		var taken [crowd][]int64
		together(func(thread int) {
			for i := range each {
				q.Put(nil, int64(thread*each+i))
				// What is taken is another one's, as often as not, but there is one.
				if q.Empty(nil) {
					continue
				}
				if v, err := q.Take(nil); err == api.OK {
					taken[thread] = append(taken[thread], v)
				} else if v != 0 || err != api.ErrEmpty {
					t.Error(v, err)
				}
			}
		})
		left := q.Values()
		for _, list := range taken {
			checkRise(t, each, list)
			checkRise(t, each, slices.Concat(list, left))
		}
		checkRise(t, each, left)
		every := slices.Sorted(slices.Values(slices.Concat(slices.Concat(taken[:]...), left)))
		if len(every) != crowd*each || len(slices.Compact(every)) != crowd*each || q.Behind() != 0 {
			t.Error(len(every), q.Behind())
		}
	}
}

// TestFreeSides: some put alone, and the others take alone until all is there.
func TestFreeSides(t *testing.T) {
	const each, sides = 20000, crowd / 2
	q, through := queue.New(), queue.New()
	together(func(thread int) {
		if thread < sides {
			for i := range each {
				q.Put(nil, int64(thread*each+i))
			}
			return
		}
		// So many tries of each as are enough to meet the others, and no waiting.
		for range 2 * each {
			if v, err := q.Take(nil); err == api.OK {
				through.Put(nil, v*crowd+int64(thread))
			}
		}
	})
	var taken [crowd][]int64
	for _, v := range through.Values() {
		taken[v%crowd] = append(taken[v%crowd], v/crowd)
	}
	for _, list := range taken {
		checkRise(t, each, slices.Concat(list, q.Values()))
	}
	every := slices.Sorted(slices.Values(slices.Concat(slices.Concat(taken[:]...), q.Values())))
	if len(every) != sides*each || len(slices.Compact(every)) != sides*each {
		t.Error(len(every))
	}
}

// TestFreeTakers: what stands there is shared out, each value to one, and nothing is left.
func TestFreeTakers(t *testing.T) {
	const many = 200000
	values := make([]int64, many)
	for i := range values {
		values[i] = int64(i)
	}
	q := queue.New(values...)
	var taken [crowd][]int64
	together(func(thread int) {
		for v, err := q.Take(nil); err == api.OK; v, err = q.Take(nil) {
			taken[thread] = append(taken[thread], v)
		}
	})
	for thread, list := range taken {
		if !slices.IsSorted(list) {
			t.Error(thread, "not in order")
		}
	}
	if every := slices.Sorted(slices.Values(slices.Concat(taken[:]...))); !slices.Equal(every, values) || !q.Empty(nil) {
		t.Error(len(every))
	}
}
