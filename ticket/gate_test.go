package ticket_test

import (
	"fmt"
	"slices"
	"testing"

	"carillon/api"
)

// TestGateAlone is P9.5 to P9.7 of a thread that is alone, whoever is in; the lock stays as it is.
func TestGateAlone(t *testing.T) {
	for word := int64(-1); word < 5; word++ {
		from := func() both { return at(2, 1, word) }
		out, in, free := max(word-1, min(word, 0)), word+1, word+1
		if word != -1 {
			free = word
		}
		steps := 1
		if word > 0 {
			steps = 2
		}
		check(t, from(), "ReadOut", readOut, truth(word > 0), steps, 2, 1, out)
		check(t, from(), "WriteOut", writeOut, truth(word == -1), 1, 2, 1, free)
		for asked, counted := range tries() {
			name := fmt.Sprint("ReadIn of tries ", asked)
			if word < 0 {
				check(t, from(), name, readIn(asked), nothing, counted, 2, 1, word)
			} else {
				check(t, from(), name, readIn(asked), yes(0), 2, 2, 1, in)
			}
			name = fmt.Sprint("WriteIn of tries ", asked)
			if word != 0 {
				check(t, from(), name, writeIn(asked), nothing, counted, 2, 1, word)
			} else {
				check(t, from(), name, writeIn(asked), yes(0), 1, 2, 1, -1)
			}
		}
	}
}

// TestManyReaders: as many go out as came in, and only then may a writer.
func TestManyReaders(t *testing.T) {
	b := fresh()
	for n := range int64(300) {
		check(t, b, "ReadIn", readIn(2), yes(0), 2, 0, 0, n+1)
		check(t, b, "WriteIn", writeIn(2), nothing, 2, 0, 0, n+1)
		check(t, b, "WriteOut", writeOut, nothing, 1, 0, 0, n+1)
	}
	for n := int64(300); n > 0; n-- {
		check(t, b, "WriteIn", writeIn(2), nothing, 2, 0, 0, n)
		check(t, b, "ReadOut", readOut, yes(0), 2, 0, 0, n-1)
	}
	for range 3 {
		check(t, b, "ReadOut of nobody", readOut, nothing, 1, 0, 0, 0)
		check(t, b, "WriteOut of nobody", writeOut, nothing, 1, 0, 0, 0)
		check(t, b, "WriteIn", writeIn(2), yes(0), 1, 0, 0, -1)
		check(t, b, "WriteIn again", writeIn(2), nothing, 2, 0, 0, -1)
		check(t, b, "ReadIn", readIn(2), nothing, 2, 0, 0, -1)
		check(t, b, "ReadOut", readOut, nothing, 1, 0, 0, -1)
		check(t, b, "WriteOut", writeOut, yes(0), 1, 0, 0, 0)
	}
}

// TestGateTries: each try fails up to the last one, or one more is done, whichever of its steps fails.
func TestGateTries(t *testing.T) {
	for asked, counted := range tries() {
		for fail := counted - 1; fail <= counted; fail++ {
			ok, n := fail < counted, int64(fail)
			others := map[int]call{}
			for i := range fail {
				others[2*i+2] = readIn(1)
			}
			x := between{"ReadIn, another one ahead of each S2", fresh(), readIn(asked), others, nothing, 2 * fail, []int64{0, 0, n}}
			if ok {
				x.answer, x.steps, x.after = yes(0), 2*fail+2, []int64{0, 0, n + 1}
			}
			x.check(t)
			x = between{"ReadIn, the writer out ahead of S1", at(0, 0, -1), readIn(asked), map[int]call{fail + 1: writeOut}, nothing, counted, []int64{0, 0, -1}}
			if ok {
				x.answer, x.steps, x.after = yes(0), fail+2, []int64{0, 0, 1}
			}
			x.check(t)
			x = between{"WriteIn, the reader out ahead of S1", at(0, 0, 1), writeIn(asked), map[int]call{fail + 1: readOut}, nothing, counted, []int64{0, 0, 1}}
			if ok {
				x.answer, x.steps, x.after = yes(0), fail+1, []int64{0, 0, -1}
			}
			x.check(t)
		}
	}
}

// TestReadOutAgain: a ReadOut has no tries; it goes on as often as another one comes between.
func TestReadOutAgain(t *testing.T) {
	for _, fails := range []int{1, 2, api.MostTries - 1, api.MostTries, api.MostTries + 1, 3 * api.MostTries} {
		more, fewer := map[int]call{}, map[int]call{}
		for i := range fails {
			more[2*i+2], fewer[2*i+2] = readIn(1), readOut
		}
		n := int64(fails)
		between{"ReadOut, another one in ahead of each S2", at(0, 0, 1), readOut, more, yes(0), 2*fails + 2, []int64{0, 0, n}}.check(t)
		between{"ReadOut, another one out ahead of each S2", at(0, 0, n+3), readOut, fewer, yes(0), 2*fails + 2, []int64{0, 0, 2}}.check(t)
		between{"ReadOut, all out", at(0, 0, n), readOut, fewer, nothing, 2*fails + 1, []int64{0, 0, 0}}.check(t)
	}
}

// TestGateSteps: what is to be seen ahead of each step.
func TestGateSteps(t *testing.T) {
	none, one, two, write := []int64{1, 0, 0}, []int64{1, 0, 1}, []int64{1, 0, 2}, []int64{1, 0, -1}
	for _, x := range []ordered{
		{"ReadIn", none, readIn(3), yes(0), [][]int64{none, none, one}},
		{"ReadIn of the second", one, readIn(3), yes(0), [][]int64{one, one, two}},
		{"ReadIn while a writer is in", write, readIn(3), nothing, slices.Repeat([][]int64{write}, 4)},
		{"ReadOut", two, readOut, yes(0), [][]int64{two, two, one}},
		{"ReadOut of the last", one, readOut, yes(0), [][]int64{one, one, none}},
		{"ReadOut of nobody", none, readOut, nothing, [][]int64{none, none}},
		{"ReadOut while a writer is in", write, readOut, nothing, [][]int64{write, write}},
		{"WriteIn", none, writeIn(3), yes(0), [][]int64{none, write}},
		{"WriteIn while a reader is in", one, writeIn(3), nothing, slices.Repeat([][]int64{one}, 4)},
		{"WriteIn while a writer is in", write, writeIn(2), nothing, slices.Repeat([][]int64{write}, 3)},
		{"WriteOut", write, writeOut, yes(0), [][]int64{write, none}},
		{"WriteOut of nobody", none, writeOut, nothing, [][]int64{none, none}},
		{"WriteOut while a reader is in", one, writeOut, nothing, [][]int64{one, one}},
	} {
		x.check(t)
	}
}

// TestBetweenGate: what another one does right ahead of a step is what that step finds.
func TestBetweenGate(t *testing.T) {
	for _, x := range []between{
		{"ReadIn, a writer in ahead of S1", fresh(), readIn(1), map[int]call{1: writeIn(1)}, nothing, 1, []int64{0, 0, -1}},
		{"ReadIn, a writer in ahead of S2", fresh(), readIn(1), map[int]call{2: writeIn(1)}, nothing, 2, []int64{0, 0, -1}},
		{"ReadIn, a writer in ahead of S2, of three tries", fresh(), readIn(3), map[int]call{2: writeIn(1)}, nothing, 4, []int64{0, 0, -1}},
		{"ReadIn, a writer in ahead of S2, and out", fresh(), readIn(3), map[int]call{2: writeIn(1), 4: writeOut}, yes(0), 5, []int64{0, 0, 1}},
		{"ReadIn, a writer in and out ahead of S2", fresh(), readIn(1), map[int]call{2: all(writeIn(1), writeOut)}, yes(0), 2, []int64{0, 0, 1}},
		{"ReadIn, a reader in ahead of S2", fresh(), readIn(1), map[int]call{2: readIn(1)}, nothing, 2, []int64{0, 0, 1}},
		{"ReadIn, a reader in ahead of S2, of two tries", fresh(), readIn(2), map[int]call{2: readIn(1)}, yes(0), 4, []int64{0, 0, 2}},
		{"ReadIn, a reader in and another out ahead of S2", at(0, 0, 1), readIn(1), map[int]call{2: all(readIn(1), readOut)}, yes(0), 2, []int64{0, 0, 2}},
		{"ReadIn, a reader out ahead of S2", at(0, 0, 1), readIn(2), map[int]call{2: readOut}, yes(0), 4, []int64{0, 0, 1}},
		{"ReadIn, a reader out and a writer in ahead of S2", at(0, 0, 1), readIn(2), map[int]call{2: all(readOut, writeIn(1))}, nothing, 3, []int64{0, 0, -1}},
		{"ReadOut, the others out ahead of S1", at(0, 0, 2), readOut, map[int]call{1: readOut}, yes(0), 2, []int64{0, 0, 0}},
		{"ReadOut, out ahead of S1", at(0, 0, 1), readOut, map[int]call{1: readOut}, nothing, 1, []int64{0, 0, 0}},
		{"ReadOut, in ahead of S1", fresh(), readOut, map[int]call{1: readIn(1)}, yes(0), 2, []int64{0, 0, 0}},
		{"ReadOut, out ahead of S2", at(0, 0, 1), readOut, map[int]call{2: readOut}, nothing, 3, []int64{0, 0, 0}},
		{"ReadOut, out and a writer in ahead of S2", at(0, 0, 1), readOut, map[int]call{2: all(readOut, writeIn(1))}, nothing, 3, []int64{0, 0, -1}},
		{"ReadOut, another one in ahead of S2", at(0, 0, 1), readOut, map[int]call{2: readIn(1)}, yes(0), 4, []int64{0, 0, 1}},
		{"WriteIn, a reader in ahead of S1", fresh(), writeIn(1), map[int]call{1: readIn(1)}, nothing, 1, []int64{0, 0, 1}},
		{"WriteIn, a reader in ahead of S1, and out", fresh(), writeIn(3), map[int]call{1: readIn(1), 3: readOut}, yes(0), 3, []int64{0, 0, -1}},
		{"WriteIn, a writer in ahead of S1", fresh(), writeIn(2), map[int]call{1: writeIn(1)}, nothing, 2, []int64{0, 0, -1}},
		{"WriteIn, a reader half in ahead of S1", fresh(), writeIn(1), map[int]call{1: half(readIn(1), 1)}, yes(0), 1, []int64{0, 0, -1}},
		{"WriteOut, in ahead of S1", fresh(), writeOut, map[int]call{1: writeIn(1)}, yes(0), 1, []int64{0, 0, 0}},
		{"WriteOut, out and a reader in ahead of S1", at(0, 0, -1), writeOut, map[int]call{1: all(writeOut, readIn(1))}, nothing, 1, []int64{0, 0, 1}},
	} {
		x.check(t)
	}
}
