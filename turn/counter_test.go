package turn_test

import (
	"sync/atomic"
	"testing"

	"carillon/api"
	"carillon/turn"
)

func TestCounter(t *testing.T) {
	for most, want := range map[int]int{-1 << 40: 0, -1: 0, 0: 0, 1: 1, 7: 7, api.MostSteps: api.MostSteps, api.MostSteps + 1: api.MostSteps, 1 << 40: api.MostSteps} {
		c := turn.NewCounter(most)
		if c.Steps() != 0 {
			t.Error(most, "at first", c.Steps())
		}
		done := 0
		if turn.Alone(c, func(s turn.Stepper) {
			for {
				s.Step()
				done++
			}
		}) {
			t.Error(most, "has come back")
		}
		if done != want || c.Steps() != want {
			t.Error(most, done, c.Steps())
		}
		if turn.Alone(c, func(s turn.Stepper) { s.Step(); done++ }) || done != want || c.Steps() != want {
			t.Error(most, "went on behind its most")
		}
	}
}

func TestCounterStepPanics(t *testing.T) {
	c := turn.NewCounter(1)
	c.Step()
	defer func() {
		if recover() == nil || c.Steps() != 1 {
			t.Error("the step behind the most came back", c.Steps())
		}
	}()
	c.Step()
}

func TestCounterNil(t *testing.T) {
	var c *turn.Counter
	for range 9 {
		c.Step()
	}
	called := false
	if !turn.Alone(c, func(s turn.Stepper) {
		for range api.MostSteps + 9 {
			s.Step()
		}
		called = true
	}) || !called || c.Steps() != 0 {
		t.Error(called, c.Steps())
	}
	if turn.Alone(c, func(s turn.Stepper) { panic("broken") }) || !turn.Alone(nil, nil) {
		t.Error("broken, nil f")
	}
}

func TestAlone(t *testing.T) {
	c := turn.NewCounter(5)
	steps := 0
	three := func(s turn.Stepper) {
		if s != turn.Stepper(c) {
			t.Error("another Stepper", s)
		}
		for range 3 {
			s.Step()
			steps++ // no lock: the caller's own goroutine
		}
	}
	if !turn.Alone(c, three) || c.Steps() != 3 || steps != 3 {
		t.Error(c.Steps(), steps)
	}
	if turn.Alone(c, three) || c.Steps() != 5 || steps != 5 {
		t.Error("not ended", c.Steps(), steps)
	}
	if !turn.Alone(c, nil) || !turn.Alone(c, func(turn.Stepper) {}) || c.Steps() != 5 {
		t.Error("without steps")
	}
	for _, cause := range []any{nil, "broken", 7, struct{}{}} {
		if turn.Alone(turn.NewCounter(5), func(s turn.Stepper) { s.Step(); panic(cause) }) {
			t.Error(cause, "has come back")
		}
	}
	unwound := false
	turn.Alone(turn.NewCounter(0), func(s turn.Stepper) {
		defer func() { unwound = true }()
		s.Step()
	})
	if !unwound {
		t.Error("not unwound")
	}
}

func TestCounterShared(t *testing.T) {
	c := turn.NewCounter(1000)
	var on atomic.Int64
	walk := func(turn.Stepper) {
		for {
			c.Step()
			on.Add(1)
		}
	}
	for _, broken := range turn.Go([]thread{walk, walk, walk, walk}) {
		if broken {
			t.Error("broken")
		}
	}
	if on.Load() != 1000 || c.Steps() != 1000 {
		t.Error(on.Load(), c.Steps())
	}
}
