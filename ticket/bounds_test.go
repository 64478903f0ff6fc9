package ticket

import (
	"math"
	"testing"

	"carillon/api"
	"carillon/turn"
)

// TestMostReaders is P9.5's 'below MostSequence', to which no test can count.
func TestMostReaders(t *testing.T) {
	for _, x := range []struct {
		word  int64
		in    bool
		steps int
	}{
		{0, true, 2},
		{1<<31 - 1, true, 2},
		{1<<32 - 1, true, 2},
		{api.MostSequence - 1, true, 2},
		{api.MostSequence, false, 3},
		{api.MostSequence + 1, false, 3},
		{math.MaxInt64, false, 3},
		{writing, false, 3},
		{-2, false, 3},
		{math.MinInt64, false, 3},
	} {
		g, c := NewGate(), turn.NewCounter(99)
		g.word.Store(nil, x.word)
		if got := g.ReadIn(c, 3); got != x.in || c.Steps() != x.steps || g.Word() != after(x.word, x.in, 1) {
			t.Error("ReadIn", x, got, c.Steps(), g.Word())
		}
	}
}

// TestAnyWord is the other calls of the gate at words that are great, or that nobody lays.
func TestAnyWord(t *testing.T) {
	for _, word := range []int64{1<<31 - 1, 1 << 32, api.MostSequence - 1, api.MostSequence, math.MaxInt64, -2, math.MinInt64} {
		g, c := NewGate(), turn.NewCounter(99)
		g.word.Store(nil, word)
		if g.WriteIn(c, 3) || g.WriteOut(c) || c.Steps() != 4 || g.Word() != word {
			t.Error(word, c.Steps(), g.Word())
		}
		if out := g.ReadOut(c); out != (word > 0) || g.Word() != after(word, out, -1) {
			t.Error("ReadOut", word, g.Word())
		}
	}
}

// after is the word behind a call, where that was done.
func after(word int64, done bool, by int64) int64 {
	if done {
		return word + by
	}
	return word
}

// TestGreatTickets: tickets are told apart wherever they stand.
func TestGreatTickets(t *testing.T) {
	for _, n := range []int64{1 << 31, 1 << 32, api.MostSequence, math.MaxInt64 - 9} {
		l := New()
		l.next.Store(nil, n)
		l.serving.Store(nil, n)
		if l.Called(nil, 0, 1) || l.Called(nil, int64(int32(n)), 1) || l.Leave(nil, int64(int32(n))) || !l.Called(nil, n, 1) {
			t.Error(n, "called")
		}
		if got, ok := l.Try(nil, 1); got != n || !ok || l.Draw(nil) != n+1 || !l.Leave(nil, n) || !l.Called(nil, n+1, 1) {
			t.Error(n, got, ok)
		}
		if next, serving := l.Numbers(); next != n+2 || serving != n+1 {
			t.Error(n, next, serving)
		}
	}
}
