package once_test

import (
	"runtime"
	"sync"
	"sync/atomic"
	"testing"

	"carillon/once"
)

func TestLazyIsMadeOnce(t *testing.T) {
	for _, ok := range []bool{true, false} {
		calls := 0
		l := once.NewLazy(func() (string, bool) { calls++; return "made", ok })
		if calls != 0 {
			t.Error("called before it was asked for")
		}
		for range 3 {
			if v, told := l.Get(); v != "made" || told != ok || calls != 1 {
				t.Error(ok, v, told, calls)
			}
		}
	}
}

// TestLazyPanics: a maker that panics, whatever with, has answered zero and false, and isn't called again.
func TestLazyPanics(t *testing.T) {
	var none []int
	for name, breaks := range map[string]func(){
		"a text":        func() { panic("no") },
		"nil":           func() { panic(nil) },
		"a value":       func() { panic(struct{ n int }{7}) },
		"the library's": func() { none[len(none)]++ },
		"twice":         func() { defer panic("again"); panic("no") },
	} {
		calls := 0
		l := once.NewLazy(func() (n int, ok bool) {
			calls++
			n, ok = 5, true
			breaks()
			return 6, true
		})
		for range 3 {
			if v, ok := l.Get(); v != 0 || ok || calls != 1 {
				t.Error(name, v, ok, calls)
			}
		}
	}
}

// TestLazyLeft: a maker that ends its goroutine has answered nothing, and holds nobody up.
func TestLazyLeft(t *testing.T) {
	l := once.NewLazy(func() (int, bool) { runtime.Goexit(); return 5, true })
	var all sync.WaitGroup
	all.Go(func() { l.Get() })
	all.Wait()
	if v, ok := l.Get(); v != 0 || ok {
		t.Error(v, ok)
	}
}

func TestZeroAndNilLazy(t *testing.T) {
	var zero once.Lazy[int]
	var none *once.Lazy[int]
	for i, l := range []*once.Lazy[int]{&zero, none, once.NewLazy[int](nil)} {
		for range 2 {
			if v, ok := l.Get(); v != 0 || ok {
				t.Error(i, v, ok)
			}
		}
	}
	if once.NewLazy[int](nil) == nil {
		t.Error("NewLazy answers nil")
	}
}

// TestLazyOfAnyType: what the maker answers is told as it is.
func TestLazyOfAnyType(t *testing.T) {
	if v, ok := once.NewLazy(func() (any, bool) { return nil, true }).Get(); v != nil || !ok {
		t.Error(v, ok)
	}
	if v, ok := once.NewLazy(func() (struct{}, bool) { return struct{}{}, true }).Get(); v != (struct{}{}) || !ok {
		t.Error(v, ok)
	}
	if v, ok := once.NewLazy(func() ([]int, bool) { return []int{1, 2}, false }).Get(); len(v) != 2 || ok {
		t.Error(v, ok)
	}
	inner := once.NewLazy(func() (int, bool) { return 4, true })
	outer := once.NewLazy(func() (*once.Lazy[int], bool) { _, ok := inner.Get(); return inner, ok })
	if v, ok := outer.Get(); v != inner || !ok {
		t.Error(v, ok)
	}
}

// TestLazyWaits: who comes while the value is being made gets that value too.
func TestLazyWaits(t *testing.T) {
	begun, goOn := make(chan struct{}), make(chan struct{})
	l := once.NewLazy(func() (int, bool) {
		close(begun)
		<-goOn
		return 5, true
	})
	var back atomic.Int64
	var all sync.WaitGroup
	ask := func() {
		if v, ok := l.Get(); v != 5 || !ok {
			t.Error(v, ok)
		}
		back.Add(1)
	}
	all.Go(ask)
	<-begun
	for range crowd {
		all.Go(ask)
	}
	for range 1000 {
		runtime.Gosched()
	}
	if back.Load() != 0 {
		t.Error("told before it was made", back.Load())
	}
	close(goOn)
	all.Wait()
	if back.Load() != crowd+1 {
		t.Error(back.Load())
	}
}

// TestLazyFree: of many who ask at one time all get one answer of one call, laid down whole.
func TestLazyFree(t *testing.T) {
	for round := range 2000 {
		var calls atomic.Int64
		l := once.NewLazy(func() ([4]int64, bool) {
			n := calls.Add(1)
			if round%3 == 0 {
				panic("no")
			}
			return [4]int64{n, n, n, n}, round%3 == 1
		})
		want := [4]int64{1, 1, 1, 1}
		if round%3 == 0 {
			want = [4]int64{}
		}
		together(func(n int) {
			if v, ok := l.Get(); v != want || ok != (round%3 == 1) {
				t.Error(round, n, v, ok)
			}
		})
		if calls.Load() != 1 {
			t.Fatal(round, calls.Load())
		}
	}
}
