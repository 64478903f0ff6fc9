package turn_test

import (
	"reflect"
	"runtime"
	"slices"
	"sync/atomic"
	"testing"

	"carillon/api"
	"carillon/turn"
)

// sum does A steps, of which each adds B to what is shared, and answers what it is then.
func sum(shared *atomic.Int64) func(s turn.Stepper, thread int, op api.Op) api.Answer {
	return func(s turn.Stepper, thread int, op api.Op) api.Answer {
		answer := api.Answer{OK: true}
		for range op.A {
			if s != nil {
				s.Step()
			}
			answer.N = shared.Add(op.B)
			answer.List = append(answer.List, int64(thread))
		}
		return answer
	}
}

func TestOps(t *testing.T) {
	var shared atomic.Int64
	threads := [][]api.Op{{{A: 1, B: 1}, {A: 2, B: 10}}, nil, {{A: 0}, {A: 1, B: 100}, {A: 1, B: 100}}}
	got := turn.Ops(threads, sum(&shared), []int{2, 1, 0, 0}, 4)
	want := api.Trace{
		Answers: [][]api.Answer{{{OK: true, N: 101, List: []int64{0}}, {OK: true, N: 121, List: []int64{0, 0}}}, nil, {{OK: true}, {OK: true, N: 100, List: []int64{2}}}},
		Order:   []int{2, 0, 0, 0},
		Stuck:   true,
	}
	if !reflect.DeepEqual(got, want) {
		t.Errorf("%+v", got)
	}
	shared.Store(0)
	got = turn.Ops(threads, sum(&shared), nil, 5)
	if got.Stuck || !slices.Equal(got.Order, []int{0, 2, 0, 2, 0}) || len(got.State) != 0 || len(got.Answers[2]) != 3 || got.Answers[2][2].N != 211 {
		t.Errorf("%+v", got)
	}
}

// TestOpsHandsOn: do gets the op as it stands, the thread's number, and the thread's own Stepper.
func TestOpsHandsOn(t *testing.T) {
	given := [][]api.Op{{{Kind: 9, A: -1, B: 2, C: 3}, {Kind: -4}}, {{C: 1 << 62}}}
	got := make([][]api.Op, 2)
	steppers := make([][]turn.Stepper, 2)
	turn.Ops(given, func(s turn.Stepper, thread int, op api.Op) api.Answer {
		s.Step()
		got[thread] = append(got[thread], op)
		steppers[thread] = append(steppers[thread], s)
		return api.Answer{}
	}, nil, 99)
	if !reflect.DeepEqual(got, given) || steppers[0][0] != steppers[0][1] || steppers[0][0] == steppers[1][0] {
		t.Error(got, steppers)
	}
	turn.OpsFree(given, func(s turn.Stepper, thread int, op api.Op) api.Answer {
		if s != nil || !slices.Contains(given[thread], op) {
			t.Error(s, thread, op)
		}
		return api.Answer{}
	})
}

func TestOpsNilDo(t *testing.T) {
	threads := [][]api.Op{{{A: 1}, {A: 2}}, nil, {{}}}
	want := [][]api.Answer{make([]api.Answer, 2), nil, make([]api.Answer, 1)}
	for _, got := range []api.Trace{turn.Ops(threads, nil, []int{0, 1}, 0), turn.OpsFree(threads, nil)} {
		if !reflect.DeepEqual(got.Answers, want) || len(got.Order) != 0 || len(got.State) != 0 || got.Stuck {
			t.Errorf("%+v", got)
		}
	}
	if got := turn.Ops(nil, nil, nil, 0); len(got.Answers) != 0 || got.Stuck {
		t.Errorf("%+v", got)
	}
	if got := turn.OpsFree(nil, nil); len(got.Answers) != 0 {
		t.Errorf("%+v", got)
	}
}

func TestOpsBroken(t *testing.T) {
	do := func(s turn.Stepper, thread int, op api.Op) api.Answer {
		if s != nil {
			s.Step()
		}
		if op.A < 0 {
			panic(op)
		}
		return api.Answer{OK: true, N: op.A}
	}
	threads := [][]api.Op{{{A: 1}, {A: -1}, {A: 2}}, {{A: 3}, {A: 4}}}
	want := [][]api.Answer{{{OK: true, N: 1}}, {{OK: true, N: 3}, {OK: true, N: 4}}}
	got := turn.Ops(threads, do, []int{0, 0, 0, 0}, 9)
	if !reflect.DeepEqual(got.Answers, want) || !slices.Equal(got.Order, []int{0, 0, 1, 1}) || got.Stuck {
		t.Errorf("%+v", got)
	}
	if got := turn.OpsFree(threads, do); !reflect.DeepEqual(got.Answers, want) {
		t.Errorf("%+v", got)
	}
}

func TestOpsLimits(t *testing.T) {
	count := func(s turn.Stepper, thread int, op api.Op) api.Answer {
		return api.Answer{OK: true, N: op.A}
	}
	long := make([]api.Op, api.MostOps+3)
	for i := range long {
		long[i].A = int64(i)
	}
	for _, got := range []api.Trace{turn.Ops([][]api.Op{long, long[:api.MostOps]}, count, nil, 9), turn.OpsFree([][]api.Op{long, long[:api.MostOps]}, count)} {
		if len(got.Answers[0]) != api.MostOps || len(got.Answers[1]) != api.MostOps || got.Answers[0][api.MostOps-1].N != api.MostOps-1 {
			t.Error(len(got.Answers[0]), len(got.Answers[1]))
		}
	}
	var many [][]api.Op
	for i := range api.MostThreads + 2 {
		many = append(many, []api.Op{{A: int64(i)}})
	}
	highest := func(s turn.Stepper, thread int, op api.Op) api.Answer {
		if thread >= api.MostThreads || op.A != int64(thread) {
			t.Error("thread", thread, op)
		}
		return api.Answer{N: op.A}
	}
	for _, got := range []api.Trace{turn.Ops(many, highest, nil, 9), turn.OpsFree(many, highest)} {
		if len(got.Answers) != api.MostThreads || len(got.Answers[63]) != 1 || got.Answers[63][0].N != 63 {
			t.Error(len(got.Answers))
		}
	}
}

// TestOpsAnswersAreNew: do may answer one list again and again, and change it.
func TestOpsAnswersAreNew(t *testing.T) {
	list := make([]int64, 2, 8)
	do := func(s turn.Stepper, thread int, op api.Op) api.Answer {
		list[0]++
		return api.Answer{OK: true, List: list}
	}
	for range 2 {
		list[0] = 0
		got := turn.Ops([][]api.Op{{{}, {}}, {{}}}, do, nil, 9)
		for i, want := range []int64{1, 2} {
			if l := got.Answers[0][i].List; len(l) != 2 || l[0] != want {
				t.Error(i, l)
			}
		}
		for _, answers := range got.Answers {
			for _, a := range answers {
				room := a.List[:cap(a.List)]
				for i := range room {
					room[i] = -7
				}
			}
		}
		if slices.Contains(list[:cap(list)], -7) {
			t.Error("shared with do's list", list)
		}
	}
	once := turn.OpsFree([][]api.Op{{{}}}, do)
	list[1] = 99
	if once.Answers[0][0].List[1] == 99 {
		t.Error("OpsFree keeps do's list")
	}
}

func TestOpsFree(t *testing.T) {
	var shared atomic.Int64
	do := sum(&shared)
	threads := make([][]api.Op, 8)
	for i := range threads {
		for range 500 {
			threads[i] = append(threads[i], api.Op{A: 3, B: 1})
		}
	}
	got := turn.OpsFree(threads, func(s turn.Stepper, thread int, op api.Op) api.Answer {
		runtime.Gosched()
		return do(s, thread, op)
	})
	if shared.Load() != 8*500*3 || len(got.Order) != 0 || len(got.State) != 0 || got.Stuck || len(got.Answers) != 8 {
		t.Error(shared.Load(), len(got.Answers))
	}
	for i, answers := range got.Answers {
		last := int64(0)
		for _, a := range answers {
			if !a.OK || a.N <= last || !slices.Equal(a.List, []int64{int64(i), int64(i), int64(i)}) {
				t.Fatal(i, a)
			}
			last = a.N
		}
		if len(answers) != 500 {
			t.Error(i, len(answers))
		}
	}
}
