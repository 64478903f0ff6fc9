// Package turn is layer 1: the turnstile, by which threads do one step at a time in the order that a schedule says, or go freely; and little programs over shared words. See shared/doc/01-turn.md.
package turn

import (
	"sync"

	"carillon/api"
)

// Stepper is what a thread asks for its turn: it calls Step right ahead of each of its steps.
type Stepper interface {
	Step()
}

// ending has a type of its own, so that nothing that a thread panics with can be taken for it.
type ending struct{}

// ride calls a thread. That it came back is told by the last line alone: a thread may also leave by runtime.Goexit, which is no panic.
func ride(thread func(s Stepper), s Stepper) (back, broken bool) {
	defer func() {
		if cause := recover(); cause != nil {
			_, own := cause.(ending)
			broken = !own
		}
	}()
	if thread != nil {
		thread(s)
	}
	return true, false
}

// stand is the place of one thread in a run by a schedule, and the Stepper that it is handed.
type stand struct {
	turn   chan struct{} // a value: do your step; closed: end
	report chan struct{} // a value: at a step; closed: ended
	ended  bool
	broken bool
}

func newStand() *stand {
	return &stand{turn: make(chan struct{}), report: make(chan struct{})}
}

// Step hands the turn back and waits for the next one. It panics each time once the thread is to end, so that a deferred call's step can't hold the end up.
func (p *stand) Step() {
	p.report <- struct{}{}
	if _, mine := <-p.turn; !mine {
		panic(ending{})
	}
}

func (p *stand) run(thread func(s Stepper)) {
	// Deferred, so that the turn comes back however the thread leaves.
	defer close(p.report)
	_, p.broken = ride(thread, p)
}

// await waits for the thread that has the turn; what that one has laid down is seen behind it.
func (p *stand) await() {
	_, standing := <-p.report
	p.ended = !standing
}

// end makes a thread that stands at a step panic there, and waits until it has unwound.
func (p *stand) end() {
	close(p.turn)
	for !p.ended {
		p.await()
	}
}

// turnstile is one run by a schedule. Only the goroutine that called Over has it: threads know their own stands alone.
type turnstile struct {
	stands []*stand
	going  int
	most   int
	order  []int
}

func newTurnstile(threads []func(s Stepper), most int) *turnstile {
	t := &turnstile{going: len(threads), most: clampMost(most)}
	for range threads {
		t.stands = append(t.stands, newStand())
	}
	return t
}

func clampMost(most int) int { return min(max(most, 0), api.MostSteps) }

func (t *turnstile) over() bool { return t.going == 0 || len(t.order) >= t.most }

func (t *turnstile) begin(threads []func(s Stepper)) {
	for i, p := range t.stands {
		go p.run(threads[i])
		t.await(p)
	}
}

func (t *turnstile) await(p *stand) {
	if p.await(); p.ended {
		t.going--
	}
}

// step passes over every number that may not do a step now.
func (t *turnstile) step(n int) {
	if n < 0 || n >= len(t.stands) || t.stands[n].ended || t.over() {
		return
	}
	t.order = append(t.order, n)
	t.stands[n].turn <- struct{}{}
	t.await(t.stands[n])
}

func (t *turnstile) follow(schedule []int) {
	for _, n := range schedule {
		if t.over() {
			return
		}
		t.step(n)
	}
	for !t.over() {
		for n := range t.stands {
			t.step(n)
		}
	}
}

// end ends the threads one at a time: their deferred functions may reach what they share.
func (t *turnstile) end() []bool {
	broken := make([]bool, len(t.stands))
	for i, p := range t.stands {
		if !p.ended {
			p.end()
		}
		broken[i] = p.broken
	}
	return broken
}

// Over is P1.1: the threads run by the schedule.
func Over(threads []func(s Stepper), schedule []int, most int) (order []int, stuck bool, broken []bool) {
	threads = firstThreads(threads)
	t := newTurnstile(threads, most)
	t.begin(threads)
	t.follow(schedule)
	stuck = t.going > 0
	broken = t.end()
	return t.order, stuck, broken
}

// Go is P1.2: the threads as free goroutines. They wait for one another at the start alone, so that they do go at one time.
func Go(threads []func(s Stepper)) []bool {
	threads = firstThreads(threads)
	broken := make([]bool, len(threads))
	start := make(chan struct{})
	var all sync.WaitGroup
	for i, thread := range threads {
		all.Go(func() {
			<-start
			_, broken[i] = ride(thread, nil)
		})
	}
	close(start)
	all.Wait()
	return broken
}

func firstThreads[T any](threads []T) []T { return threads[:min(len(threads), api.MostThreads)] }
