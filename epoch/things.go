package epoch

import (
	"carillon/api"
	"carillon/turn"
)

// safeBehind is by how many epochs a thing must lie behind: who may have seen it holds the epoch at the next one at most.
const safeBehind = 2

// retired is a thing that waits, and the epoch in which it was retired.
type retired struct{ thing, epoch int64 }

// Retire is P10.4: the thing is m's last one, and waits.
func (d *Domain) Retire(s turn.Stepper, m int, thing int64) (int64, api.Errno) {
	own := d.member(m)
	if own == nil {
		return 0, api.ErrRange
	}
	e := d.epoch.Load(s)
	own.things = append(own.things, retired{thing, e})
	return e, api.OK
}

// Collect is P10.6: those of m's things that nobody looks at any more.
func (d *Domain) Collect(s turn.Stepper, m int) ([]int64, api.Errno) {
	own := d.member(m)
	if own == nil {
		return nil, api.ErrRange
	}
	return own.release(d.epoch.Load(s) - safeBehind), api.OK
}

// Waiting is P10.7: m's things, without a step.
func (d *Domain) Waiting(m int) []int64 {
	own := d.member(m)
	if own == nil {
		return nil
	}
	return numbers(own.things)
}

// release gives away the things up to that epoch; they stand first, as the epoch never goes back.
func (own *member) release(last int64) []int64 {
	n := 0
	for n < len(own.things) && own.things[n].epoch <= last {
		n++
	}
	if n == 0 {
		return nil
	}
	free := numbers(own.things[:n])
	// New memory, so that those that are gone take no room any more.
	own.things = append([]retired(nil), own.things[n:]...)
	return free
}

func numbers(things []retired) []int64 {
	all := make([]int64, len(things))
	for i, t := range things {
		all[i] = t.thing
	}
	return all
}
