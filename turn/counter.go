package turn

import "sync/atomic"

// Counter is P1.6: a Stepper for a thread that is alone, which ends it ahead of one step too many.
type Counter struct {
	most  int64
	steps atomic.Int64
}

// NewCounter makes a Counter that has counted none.
func NewCounter(most int) *Counter { return &Counter{most: int64(clampMost(most))} }

// Step counts a step, or ends the thread. It swaps rather than adds, so that Steps never tells of a step that wasn't let go on.
func (c *Counter) Step() {
	if c == nil {
		return
	}
	for {
		n := c.steps.Load()
		if n >= c.most {
			panic(ending{})
		}
		if c.steps.CompareAndSwap(n, n+1) {
			return
		}
	}
}

// Steps tells how many steps were let go on.
func (c *Counter) Steps() int {
	if c == nil {
		return 0
	}
	return int(c.steps.Load())
}

// Alone is P1.6: f with c, in the caller's own goroutine.
func Alone(c *Counter, f func(s Stepper)) bool {
	back, _ := ride(f, c)
	return back
}
