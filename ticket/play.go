package ticket

import (
	"carillon/api"
	"carillon/cell"
	"carillon/turn"
)

// The kinds of Op.
const (
	kindDraw = 1 + iota
	kindCalled
	kindLeave
	kindTry
	kindWork
	kindReadIn
	kindReadOut
	kindWriteIn
	kindWriteOut
	kindLook
	kindChange
)

// room is what the threads of a run share: x is for who is in by the lock, y and z for those who are in by the gate.
type room struct {
	lock    Lock
	gate    Gate
	x, y, z cell.Word
}

// Play is P9.9: the threads over a lock, a gate and three numbers, by the schedule.
func Play(threads [][]api.Op, schedule []int, most int) api.Trace {
	r := &room{}
	trace := turn.Ops(threads, r.do, schedule, most)
	trace.State = r.state()
	return trace
}

// Free is P9.9: the same, as free goroutines.
func Free(threads [][]api.Op) api.Trace {
	r := &room{}
	trace := turn.OpsFree(threads, r.do)
	trace.State = r.state()
	return trace
}

func (r *room) do(s turn.Stepper, _ int, op api.Op) api.Answer {
	switch op.Kind {
	case kindDraw:
		return api.Answer{OK: true, N: r.lock.Draw(s)}
	case kindCalled:
		return api.Answer{OK: r.lock.Called(s, op.A, int(op.B))}
	case kindLeave:
		return api.Answer{OK: r.lock.Leave(s, op.A)}
	case kindTry:
		ticket, ok := r.lock.Try(s, int(op.A))
		return api.Answer{OK: ok, N: ticket}
	case kindWork:
		return r.work(s, int(op.A), op.B)
	case kindReadIn:
		return api.Answer{OK: r.gate.ReadIn(s, int(op.A))}
	case kindReadOut:
		return api.Answer{OK: r.gate.ReadOut(s)}
	case kindWriteIn:
		return api.Answer{OK: r.gate.WriteIn(s, int(op.A))}
	case kindWriteOut:
		return api.Answer{OK: r.gate.WriteOut(s)}
	case kindLook:
		return r.look(s, int(op.A))
	case kindChange:
		return r.change(s, int(op.A), op.B)
	}
	return api.Answer{}
}

func (r *room) work(s turn.Stepper, tries int, by int64) api.Answer {
	ticket, ok := r.lock.Try(s, tries)
	if !ok {
		return api.Answer{}
	}
	x := raise(s, &r.x, by)
	r.lock.Leave(s, ticket)
	return api.Answer{OK: true, N: x}
}

func (r *room) look(s turn.Stepper, tries int) api.Answer {
	if !r.gate.ReadIn(s, tries) {
		return api.Answer{}
	}
	y := r.y.Load(s)
	z := r.z.Load(s)
	r.gate.ReadOut(s)
	return api.Answer{OK: true, List: []int64{y, z}}
}

func (r *room) change(s turn.Stepper, tries int, by int64) api.Answer {
	if !r.gate.WriteIn(s, tries) {
		return api.Answer{}
	}
	y := raise(s, &r.y, by)
	raise(s, &r.z, by)
	r.gate.WriteOut(s)
	return api.Answer{OK: true, N: y}
}

// raise adds by a load and a store, so that it shows whether nobody else was in; what was loaded.
func raise(s turn.Stepper, w *cell.Word, by int64) int64 {
	v := w.Load(s)
	w.Store(s, v+by)
	return v
}

func (r *room) state() []int64 {
	next, serving := r.lock.Numbers()
	return []int64{next, serving, r.gate.Word(), r.x.Value(), r.y.Value(), r.z.Value()}
}
