package plain_test

import (
	"slices"
	"testing"

	"carillon/api"
	"carillon/plain"
)

// pacer is a walker over one number: of its operation, of kind 1, B is added in A steps, one each; of kind 2 it is told.
type pacer struct {
	plain.Walk
	number *int64
}

func (p *pacer) Step() {
	p.Count()
	o := p.Op()
	if o.Kind == 2 {
		p.End(api.Answer{OK: true, N: *p.number})
		return
	}
	*p.number += o.B
	if p.At == int(o.A) {
		p.End(api.Answer{OK: true})
		return
	}
	p.At++
}

func pacers(number int64, threads ...[]api.Op) []*pacer {
	steps, all := 0, []*pacer(nil)
	for _, ops := range threads {
		all = append(all, &pacer{plain.NewWalk(ops, &steps, plain.Outside(2)), &number})
	}
	return all
}

func pace(steps, by int64) api.Op { return api.Op{Kind: 1, A: steps, B: by} }

func (p *pacer) left() []int64 { return []int64{*p.number} }

var (
	tell = api.Op{Kind: 2}
	done = api.Answer{OK: true}
	none = api.Answer{}
)

func TestFollow(t *testing.T) {
	threads := [][]api.Op{{pace(2, 10), tell}, {{Kind: 3}, pace(1, 1), {}, {Kind: -1}}, nil}
	for _, x := range []struct {
		schedule []int
		most     int
		want     api.Trace
	}{
		{[]int{1, 0}, 99, api.Trace{Answers: [][]api.Answer{{done, {OK: true, N: 121}}, {none, done, none, none}, nil}, Order: []int{1, 0, 0, 0}, State: []int64{121}}},
		{[]int{0}, 2, api.Trace{Answers: [][]api.Answer{{done}, {none}, nil}, Order: []int{0, 0}, State: []int64{120}, Stuck: true}},
		{nil, 0, api.Trace{Answers: [][]api.Answer{nil, {none}, nil}, State: []int64{100}, Stuck: true}},
	} {
		walkers := pacers(100, threads...)
		if got := plain.Follow(walkers, x.schedule, x.most, walkers[0].left); !plain.Same(got, x.want) {
			t.Errorf("%v %d: %+v", x.schedule, x.most, got)
		}
		x.want.Order, x.want.Stuck = nil, false
		if got := plain.TraceOf(walkers, walkers[0].left()); !plain.Same(got, x.want) {
			t.Errorf("%v %d: %+v", x.schedule, x.most, got)
		}
	}
}

func TestEach(t *testing.T) {
	threads := [][]api.Op{{{}, pace(3, 1), tell}, {pace(1, 7), {Kind: 9}, tell, pace(2, 1)}}
	walkers := pacers(0, threads...)
	plain.Run(walkers, []int{0, 1, 0, 1, 0, 1, 0}, 7)
	for n, want := range [][]plain.Span{{{-1, -1}, {0, 4}, {6, 6}}, {{1, 1}, {-1, -1}, {3, 3}}} {
		var got []plain.Span
		walkers[n].Each(func(o api.Op, a api.Answer, at plain.Span) {
			if o != threads[n][len(got)] || a.OK != (o.Kind == 1 || o.Kind == 2) || a.OK && a.N != map[int]int64{1: 0, 2: 11 - 2*int64(n)}[o.Kind] {
				t.Error(n, o, a)
			}
			got = append(got, at)
		})
		if !slices.Equal(got, want) {
			t.Error(n, got)
		}
	}
	if w := walkers[1]; w.Ended() || w.Op() != pace(2, 1) || w.At != 2 || !walkers[0].Ended() {
		t.Error(w.Op(), w.At)
	}
}

// TestStill: operations that have no step, wherever they stand, and whatever they answer.
func TestStill(t *testing.T) {
	steps := 0
	w := plain.NewWalk([]api.Op{{A: 1}, {A: 2}, {}, {A: 3}, {}, {}, {A: 4}}, &steps, func(o api.Op) (api.Answer, bool) { return api.Answer{N: o.A}, o.A > 0 })
	for _, ended := range []int{2, 4, 5, 7} {
		if len(w.Told()) != ended || w.Ended() != (ended == 7) {
			t.Error(ended, w.Told())
		}
		if !w.Ended() {
			w.End(done)
		}
	}
	for i, n := range []int64{1, 2, 0, 3, 0, 0, 4} {
		if w.Told()[i].N != n || w.Told()[i].OK != (n == 0) {
			t.Error(i, w.Told()[i])
		}
	}
	outside := plain.Outside(3)
	for kind, want := range map[int]bool{-1: true, 0: true, 1: false, 3: false, 4: true} {
		if a, still := outside(api.Op{Kind: kind, A: 5}); still != want || a.OK || a.N != 0 {
			t.Error(kind, a, still)
		}
	}
}

func TestDoneOf(t *testing.T) {
	walkers := pacers(0, []api.Op{{}, pace(2, 1), tell, pace(1, 5)})
	plain.Run(walkers, nil, 99)
	list := plain.DoneOf(&walkers[0].Walk, func(o api.Op, a api.Answer) func(state int64) (int64, bool) {
		if o.Kind == 2 {
			return nil
		}
		return func(state int64) (int64, bool) { return state + o.A*o.B, a.OK }
	})
	if len(list) != 2 || list[0].First != 0 || list[0].Last != 1 || list[1].First != 3 || list[1].Last != 3 {
		t.Fatal(list)
	}
	if after, ok := list[1].On(100); after != 105 || !ok {
		t.Error(after, ok)
	}
}

func TestSchedulesBehind(t *testing.T) {
	var all [][]int
	plain.SchedulesBehind([]int{1, 0, 1}, func() []*walk { return walks(2, 4) }, func(order []int, threads []*walk) {
		if threads[0].left != 0 || threads[1].left != 0 {
			t.Error("not ended", order)
		}
		all = append(all, order)
	})
	if want := [][]int{{1, 0, 1, 0, 1, 1}, {1, 0, 1, 1, 0, 1}, {1, 0, 1, 1, 1, 0}}; !slices.EqualFunc(all, want, slices.Equal) {
		t.Error(all)
	}
}

func TestForeign(t *testing.T) {
	calls := 0
	free := func() api.Trace {
		calls++
		return api.Trace{State: []int64{int64(calls)}}
	}
	can := map[string]bool{}
	for i := range int64(5) {
		can[plain.Outcome(api.Trace{State: []int64{i + 1}})] = true
	}
	if run, there := plain.Foreign(free, 5, can); there || calls != 5 || len(run.State) != 0 {
		t.Error(run, there, calls)
	}
	if run, there := plain.Foreign(free, 5, can); !there || calls != 6 || run.State[0] != 6 {
		t.Error(run, there, calls)
	}
	ordered := func() api.Trace { return api.Trace{State: []int64{1}, Order: []int{0}} }
	if _, there := plain.Foreign(ordered, 1, can); !there {
		t.Error("a free run with an order")
	}
}
