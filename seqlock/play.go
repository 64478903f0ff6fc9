package seqlock

import (
	"carillon/api"
	"carillon/turn"
)

// The kinds of Op.
const (
	kindWrite = 1 + iota
	kindAdd
	kindRead
	kindRaw
	kindNewer
)

// Play is P8.7: the threads over a lock of the words start, by the schedule.
func Play(start []int64, threads [][]api.Op, schedule []int, most int) api.Trace {
	l := New(start...)
	trace := turn.Ops(threads, l.do, schedule, most)
	trace.State = l.state()
	return trace
}

// Free is P8.7: the same, as free goroutines.
func Free(start []int64, threads [][]api.Op) api.Trace {
	l := New(start...)
	trace := turn.OpsFree(threads, l.do)
	trace.State = l.state()
	return trace
}

func (l *Lock) do(s turn.Stepper, _ int, op api.Op) api.Answer {
	switch op.Kind {
	case kindWrite:
		return api.Answer{OK: l.Write(s, int(op.A), l.values(op)...)}
	case kindAdd:
		return api.Answer{OK: l.Add(s, int(op.A), l.values(op)...)}
	case kindRead:
		words, ok := l.Read(s, int(op.A))
		return api.Answer{OK: ok, List: words}
	case kindRaw:
		return api.Answer{OK: true, List: l.Raw(s)}
	case kindNewer:
		version, ok := l.Newer(s, op.A)
		return api.Answer{OK: ok, N: version}
	}
	return api.Answer{}
}

// values are what an Op has for the words.
func (l *Lock) values(op api.Op) []int64 {
	all := make([]int64, l.Len())
	for i := range all {
		all[i] = op.B + int64(i)*op.C
	}
	return all
}

func (l *Lock) state() []int64 { return append([]int64{l.Version()}, l.Values()...) }
