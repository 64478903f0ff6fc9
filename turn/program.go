package turn

import (
	"sync/atomic"

	"carillon/api"
)

// Code is one line of a program.
type Code struct {
	Do      Do
	R, A, B int
	V       int64
}

// Do says what a Code does.
type Do int

// Those from DoLoad on are steps.
const (
	DoSet Do = 1 + iota
	DoMove
	DoSum
	DoEqual
	DoLess
	DoTell
	DoLoad
	DoStore
	DoAdd
	DoSwap
	DoCompare
)

const (
	mostOwn  = 4096  // codes one behind the other that are no steps
	mostFree = 65536 // steps of a free thread
)

// Play is P1.4: the programs over the words, by the schedule.
func Play(words []int64, programs [][]Code, schedule []int, most int) api.Trace {
	shared := share(words)
	walkers := newWalkers(shared, programs)
	threads := make([]func(s Stepper), len(walkers))
	for i, w := range walkers {
		threads[i] = w.walk
	}
	order, stuck, _ := Over(threads, schedule, most)
	return api.Trace{Answers: told(walkers), Order: order, State: values(shared), Stuck: stuck}
}

// Free is P1.5: the programs over the words, as free goroutines. Each has a Counter of its own, as a free program may go round for ever.
func Free(words []int64, programs [][]Code) api.Trace {
	shared := share(words)
	walkers := newWalkers(shared, programs)
	threads := make([]func(s Stepper), len(walkers))
	for i, w := range walkers {
		threads[i] = func(Stepper) { w.walk(NewCounter(mostFree)) }
	}
	Go(threads)
	return api.Trace{Answers: told(walkers), State: values(shared)}
}

func share(words []int64) []atomic.Int64 {
	shared := make([]atomic.Int64, len(words))
	for i, v := range words {
		shared[i].Store(v)
	}
	return shared
}

func values(shared []atomic.Int64) []int64 {
	out := make([]int64, len(shared))
	for i := range shared {
		out[i] = shared[i].Load()
	}
	return out
}

// walker is one thread that goes through a program.
type walker struct {
	words     []atomic.Int64
	codes     []Code
	registers [4]int64
	told      []api.Answer
}

func newWalkers(words []atomic.Int64, programs [][]Code) []*walker {
	var walkers []*walker
	for _, codes := range firstThreads(programs) {
		walkers = append(walkers, &walker{words: words, codes: codes})
	}
	return walkers
}

func told(walkers []*walker) [][]api.Answer {
	answers := make([][]api.Answer, len(walkers))
	for i, w := range walkers {
		answers[i] = w.told
	}
	return answers
}

// walk counts the codes without a step: a program that does none would otherwise keep the turn for ever.
func (w *walker) walk(s Stepper) {
	own := 0
	for next := int64(0); next >= 0 && next < int64(len(w.codes)); {
		code := w.codes[next]
		if w.isStep(code) {
			s.Step()
			w.reach(code)
			own = 0
			next++
			continue
		}
		if own == mostOwn {
			return
		}
		own++
		next = w.reckon(code, next)
	}
}

func (w *walker) isStep(code Code) bool {
	return code.Do >= DoLoad && code.Do <= DoCompare && code.A >= 0 && code.A < len(w.words)
}

// register takes a number's last two bits: they are its value modulo 4, below 0 too.
func (w *walker) register(n int) *int64 { return &w.registers[n&3] }

// reckon does a code that is no step, and answers the number of the code to go on at.
func (w *walker) reckon(code Code, next int64) int64 {
	r, a, b := w.register(code.R), w.register(code.A), w.register(code.B)
	switch code.Do {
	case DoSet:
		*r = code.V
	case DoMove:
		*r = *a
	case DoSum:
		*r = *a + *b
	case DoEqual:
		if *a == *b {
			return code.V
		}
	case DoLess:
		if *a < *b {
			return code.V
		}
	case DoTell:
		w.told = append(w.told, api.Answer{OK: true, N: *r})
	}
	return next + 1
}

// reach does a code that is a step.
func (w *walker) reach(code Code) {
	word, r := &w.words[code.A], w.register(code.R)
	switch code.Do {
	case DoLoad:
		*r = word.Load()
	case DoStore:
		word.Store(*r)
	case DoAdd:
		*r = word.Add(code.V)
	case DoSwap:
		*r = word.Swap(*r)
	case DoCompare:
		done := word.CompareAndSwap(*w.register(code.B), code.V)
		*r = 0
		if done {
			*r = 1
		}
	}
}
