package turn_test

import (
	"runtime"
	"slices"
	"strconv"
	"sync"
	"sync/atomic"
	"testing"

	"carillon/api"
	"carillon/turn"
)

type thread = func(s turn.Stepper)

// steps makes a thread that does so many steps and logs its number behind each.
func steps(n, count int, log *[]int) thread {
	return func(s turn.Stepper) {
		for range count {
			s.Step()
			*log = append(*log, n)
		}
	}
}

func TestOverFollowsTheSchedule(t *testing.T) {
	for _, x := range []struct {
		name     string
		counts   []int
		schedule []int
		most     int
		order    []int
		stuck    bool
	}{
		{"as it says", []int{2, 2}, []int{1, 0, 0, 1}, 9, []int{1, 0, 0, 1}, false},
		{"no thread's numbers", []int{1, 1}, []int{-1, 2, 63, 64, 1 << 40, -1 << 40, 1, 0}, 9, []int{1, 0}, false},
		{"an ended thread's numbers", []int{1, 2}, []int{0, 0, 0, 1, 0, 1, 1}, 9, []int{0, 1, 1}, false},
		{"a thread without steps", []int{0, 1}, []int{0, 1}, 9, []int{1}, false},
		{"round and round behind it", []int{1, 3, 2}, []int{2}, 9, []int{2, 0, 1, 2, 1, 1}, false},
		{"the lowest first behind it, whoever was last", []int{2, 2, 2}, []int{0}, 9, []int{0, 0, 1, 2, 1, 2}, false},
		{"stuck in the schedule", []int{2, 2}, []int{1, 1, 0, 0}, 3, []int{1, 1, 0}, true},
		{"stuck behind the schedule", []int{2, 2}, []int{1}, 3, []int{1, 0, 1}, true},
		{"stuck in the midst of a round", []int{9, 9, 9}, nil, 4, []int{0, 1, 2, 0}, true},
		{"just as many as most", []int{2, 2}, nil, 4, []int{0, 1, 0, 1}, false},
		{"just as many as most in the schedule", []int{2, 2}, []int{1, 1, 0, 0, 0, 1}, 4, []int{1, 1, 0, 0}, false},
		{"most 0", []int{1, 1}, []int{0, 1}, 0, nil, true},
		{"most below 0", []int{1, 1}, []int{0, 1}, -7, nil, true},
		{"most 0, no steps", []int{0, 0}, []int{0, 1}, 0, nil, false},
		{"no threads", nil, []int{0, 1}, 5, nil, false},
		{"no threads, most 0", nil, nil, 0, nil, false},
	} {
		t.Run(x.name, func(t *testing.T) {
			var log []int
			var threads []thread
			for i, count := range x.counts {
				threads = append(threads, steps(i, count, &log))
			}
			schedule := slices.Clone(x.schedule)
			order, stuck, broken := turn.Over(threads, schedule, x.most)
			if !slices.Equal(order, x.order) || !slices.Equal(log, x.order) || stuck != x.stuck {
				t.Error("order", order, "log", log, "stuck", stuck)
			}
			if !slices.Equal(broken, make([]bool, len(x.counts))) {
				t.Error("broken", broken)
			}
			if !slices.Equal(schedule, x.schedule) {
				t.Error("the schedule was changed", schedule)
			}
		})
	}
}

func TestOverMostAboveTheLimit(t *testing.T) {
	for most, want := range map[int]int{api.MostSteps + 5: api.MostSteps, api.MostSteps - 1: api.MostSteps - 1} {
		done := 0
		order, stuck, _ := turn.Over([]thread{func(s turn.Stepper) {
			for {
				s.Step()
				done++
			}
		}}, nil, most)
		if len(order) != want || done != want || !stuck {
			t.Error(most, len(order), done, stuck)
		}
	}
}

func TestOverBegins(t *testing.T) {
	var log []string
	loud := func(name string, count int) thread {
		return func(s turn.Stepper) {
			log = append(log, name+" begins")
			for i := range count {
				s.Step()
				log = append(log, name+" "+strconv.Itoa(i))
			}
		}
	}
	turn.Over([]thread{loud("a", 1), loud("b", 0), loud("c", 1)}, []int{2, 0}, 9)
	if want := []string{"a begins", "b begins", "c begins", "c 0", "a 0"}; !slices.Equal(log, want) {
		t.Error(log)
	}
	log = nil
	if _, stuck, _ := turn.Over([]thread{loud("a", 1), loud("b", 0), loud("c", 1)}, []int{2, 0}, 0); !stuck {
		t.Error("not stuck")
	}
	if want := []string{"a begins", "b begins", "c begins"}; !slices.Equal(log, want) {
		t.Error(log)
	}
}

func TestOverOneAtATime(t *testing.T) {
	var inside atomic.Int64
	plain := 0
	busy := func(s turn.Stepper) {
		for range 50 {
			if inside.Add(1) != 1 {
				t.Error("two at a time")
			}
			for range 5 {
				plain++
				runtime.Gosched()
			}
			inside.Add(-1)
			s.Step()
		}
	}
	var schedule []int
	for i := range 120 {
		schedule = append(schedule, i*i%7)
	}
	turn.Over([]thread{busy, busy, busy, busy}, schedule, 1000)
	if plain != 4*50*5 {
		t.Error("what threads have laid down was lost:", plain)
	}
}

func TestOverNilAndTooManyThreads(t *testing.T) {
	var log []int
	order, stuck, broken := turn.Over([]thread{nil, steps(1, 2, &log), nil}, []int{0, 1, 2, 0, 1}, 9)
	if !slices.Equal(order, []int{1, 1}) || stuck || !slices.Equal(broken, []bool{false, false, false}) {
		t.Error(order, stuck, broken)
	}
	for _, count := range []int{api.MostThreads, api.MostThreads + 1, api.MostThreads + 9} {
		log = nil
		var threads []thread
		for i := range count {
			threads = append(threads, steps(i, 1, &log))
		}
		threads[60] = func(turn.Stepper) { panic("broken") }
		if count > api.MostThreads {
			threads[api.MostThreads] = func(turn.Stepper) { panic("not to be called") }
		}
		order, stuck, broken := turn.Over(threads, []int{64, 63, 65}, 999)
		if len(order) != 63 || order[0] != 63 || order[62] != 62 || len(log) != 63 || stuck {
			t.Error(count, order, stuck)
		}
		if len(broken) != api.MostThreads || slices.Index(broken, true) != 60 || slices.Contains(broken[61:], true) {
			t.Error(count, broken)
		}
	}
}

type trouble struct{ n int }

func TestOverBroken(t *testing.T) {
	var log []int
	var none []int
	for name, breaks := range map[string]thread{
		"a text":         func(turn.Stepper) { panic("broken") },
		"nil":            func(turn.Stepper) { panic(nil) },
		"a value":        func(turn.Stepper) { panic(trouble{7}) },
		"an empty value": func(turn.Stepper) { panic(struct{}{}) },
		"the library's":  func(turn.Stepper) { none[len(log)+1]++ },
		"at once":        nil,
	} {
		log = nil
		order, stuck, broken := turn.Over([]thread{steps(0, 1, &log), func(s turn.Stepper) {
			s.Step()
			if breaks == nil {
				panic(0)
			}
			breaks(s)
		}, steps(2, 2, &log)}, []int{1, 1, 1, 2, 0}, 9)
		if !slices.Equal(order, []int{1, 2, 0, 2}) || !slices.Equal(log, []int{2, 0, 2}) || stuck || !slices.Equal(broken, []bool{false, true, false}) {
			t.Error(name, order, log, stuck, broken)
		}
	}
	order, stuck, broken := turn.Over([]thread{func(turn.Stepper) { panic("ahead of any step") }, steps(1, 1, &log)}, nil, 0)
	if len(order) != 0 || !stuck || !slices.Equal(broken, []bool{true, false}) {
		t.Error(order, stuck, broken)
	}
	order, stuck, broken = turn.Over([]thread{func(s turn.Stepper) { s.Step(); panic("with the last step") }}, nil, 1)
	if len(order) != 1 || stuck || !slices.Equal(broken, []bool{true}) {
		t.Error(order, stuck, broken)
	}
}

func TestOverLeftByGoexit(t *testing.T) {
	var log []int
	order, stuck, broken := turn.Over([]thread{func(s turn.Stepper) { s.Step(); runtime.Goexit() }, steps(1, 2, &log)}, nil, 9)
	if !slices.Equal(order, []int{0, 1, 1}) || stuck || !slices.Equal(broken, []bool{false, false}) {
		t.Error(order, stuck, broken)
	}
	if broken := turn.Go([]thread{func(turn.Stepper) { runtime.Goexit() }}); !slices.Equal(broken, []bool{false}) {
		t.Error(broken)
	}
}

// TestOverEndsTheStuck: a thread that stands at a step unwinds from there, does nothing else, and is gone when Over comes back.
func TestOverEndsTheStuck(t *testing.T) {
	var left, gone, passed []int
	stands := func(n int) thread {
		return func(s turn.Stepper) {
			defer func() { gone = append(gone, n) }()
			defer func() {
				cause := recover()
				if cause != nil {
					left = append(left, n)
					panic(cause)
				}
			}()
			for {
				s.Step()
				passed = append(passed, n)
			}
		}
	}
	order, stuck, broken := turn.Over([]thread{stands(0), nil, stands(2), stands(3)}, []int{3, 3}, 4)
	if want := []int{3, 3, 0, 2}; !slices.Equal(order, want) || !slices.Equal(passed, want) || !stuck {
		t.Error(order, passed, stuck)
	}
	if want := []int{0, 2, 3}; !slices.Equal(left, want) || !slices.Equal(gone, want) || slices.Contains(broken, true) {
		t.Error(left, gone, broken)
	}
	for range 200 {
		turn.Over([]thread{stands(0), stands(1), stands(2)}, nil, 2)
	}
	for try := 0; runtime.NumGoroutine() > 20; try++ {
		if try == 1_000_000 {
			t.Fatal("goroutines stay behind:", runtime.NumGoroutine())
		}
		runtime.Gosched()
	}
}

// TestOverStepBehindTheEnd: a thread that is to end gets no other turn, whatever its deferred calls do.
func TestOverStepBehindTheEnd(t *testing.T) {
	turns := 0
	order, stuck, _ := turn.Over([]thread{func(s turn.Stepper) {
		defer func() { turns++ }()
		defer func() {
			s.Step()
			turns += 100
		}()
		s.Step()
		turns += 100
	}}, nil, 0)
	if len(order) != 0 || !stuck || turns != 1 {
		t.Error(order, stuck, turns)
	}
}

func TestOverIsNew(t *testing.T) {
	var log []int
	run := func() ([]int, []bool) {
		order, _, broken := turn.Over([]thread{steps(0, 3, &log), steps(1, 3, &log)}, []int{1}, 99)
		return order, broken
	}
	order, broken := run()
	for i := range order[:cap(order)] {
		order[:cap(order)][i] = -9
	}
	broken[0] = true
	again, fresh := run()
	if !slices.Equal(again, []int{1, 0, 1, 0, 1, 0}) || fresh[0] {
		t.Error(again, fresh)
	}
}

func TestOverWithinOver(t *testing.T) {
	var inner [][]int
	nest := func(s turn.Stepper) {
		s.Step()
		var log []int
		order, _, _ := turn.Over([]thread{steps(0, 1, &log), steps(1, 1, &log)}, []int{1}, 9)
		inner = append(inner, order)
		s.Step()
	}
	order, stuck, broken := turn.Over([]thread{nest, nest}, []int{1, 0}, 9)
	if !slices.Equal(order, []int{1, 0, 0, 1}) || stuck || slices.Contains(broken, true) || len(inner) != 2 || !slices.Equal(inner[1], []int{1, 0}) {
		t.Error(order, stuck, broken, inner)
	}
}

func TestGo(t *testing.T) {
	if got := turn.Go(nil); len(got) != 0 {
		t.Error(got)
	}
	var calls atomic.Int64
	var threads []thread
	for i := range api.MostThreads + 3 {
		threads = append(threads, func(s turn.Stepper) {
			if s != nil {
				t.Error("a Stepper")
			}
			calls.Add(1)
			if i%5 == 0 {
				panic(i)
			}
		})
	}
	threads[1], threads[10] = nil, nil
	broken := turn.Go(threads)
	if len(broken) != api.MostThreads || calls.Load() != api.MostThreads-2 {
		t.Error(len(broken), calls.Load())
	}
	for i, b := range broken {
		if b != (i%5 == 0 && i != 10) {
			t.Error(i, b)
		}
	}
}

// TestGoAtOneTime: the threads wait for one another, so they must all be under way together.
func TestGoAtOneTime(t *testing.T) {
	var all sync.WaitGroup
	all.Add(api.MostThreads)
	met := make([]bool, api.MostThreads)
	var threads []thread
	for i := range met {
		threads = append(threads, func(turn.Stepper) {
			all.Done()
			all.Wait()
			met[i] = true
		})
	}
	turn.Go(threads)
	if slices.Contains(met, false) {
		t.Error("Go came back ahead of a thread's end:", met)
	}
}

// TestGoEndedByACounter: what a Counter ends is ended by the turnstile's own value, so it isn't broken.
func TestGoEndedByACounter(t *testing.T) {
	broken := turn.Go([]thread{func(turn.Stepper) { turn.NewCounter(0).Step() }, func(turn.Stepper) { panic(0) }})
	if !slices.Equal(broken, []bool{false, true}) {
		t.Error(broken)
	}
}

func BenchmarkOver(b *testing.B) {
	walk := func(s turn.Stepper) {
		for {
			s.Step()
		}
	}
	for b.Loop() {
		turn.Over([]thread{walk, walk, walk, walk}, nil, 1<<16)
	}
}
