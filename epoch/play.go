package epoch

import (
	"carillon/api"
	"carillon/turn"
)

// The kinds of Op.
const (
	kindEnter = 1 + iota
	kindLeave
	kindRetire
	kindAdvance
	kindCollect
)

// Play is P10.8: the threads over a domain of which each is a member, by the schedule.
func Play(start []int64, threads [][]api.Op, schedule []int, most int) api.Trace {
	d := newDomain(start, len(threads))
	trace := turn.Ops(threads, d.do, schedule, most)
	trace.State = d.state()
	return trace
}

// Free is P10.8: the same, as free goroutines.
func Free(start []int64, threads [][]api.Op) api.Trace {
	d := newDomain(start, len(threads))
	trace := turn.OpsFree(threads, d.do)
	trace.State = d.state()
	return trace
}

func newDomain(start []int64, threads int) *Domain {
	d, _ := New(min(threads, api.MostThreads))
	if len(start) > 0 {
		d.epoch.Store(nil, min(max(start[0], 0), api.MostSequence))
	}
	return d
}

func (d *Domain) do(s turn.Stepper, m int, op api.Op) api.Answer {
	switch op.Kind {
	case kindEnter:
		e, err := d.Enter(s, m)
		return api.Answer{OK: err == api.OK, N: e}
	case kindLeave:
		return api.Answer{OK: d.Leave(s, m) == api.OK}
	case kindRetire:
		e, err := d.Retire(s, m, op.A)
		return api.Answer{OK: err == api.OK, N: e}
	case kindAdvance:
		moved, err := d.Advance(s, m)
		return api.Answer{OK: err == api.OK, N: one(moved)}
	case kindCollect:
		things, err := d.Collect(s, m)
		return api.Answer{OK: err == api.OK, List: things}
	}
	return api.Answer{}
}

// one is 1 for true.
func one(yes bool) int64 {
	if yes {
		return 1
	}
	return 0
}

func (d *Domain) state() []int64 { return append([]int64{d.Epoch()}, d.Marks()...) }
