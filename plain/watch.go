package plain

import "carillon/turn"

// watcher is the Stepper of a thread that is watched.
type watcher struct {
	look    func() string
	seen    []string
	between map[int]func()
}

func (w *watcher) Step() {
	w.seen = append(w.seen, w.look())
	if other := w.between[len(w.seen)]; other != nil {
		other()
	}
}

// Watched lets a thread go that is alone, and tells what there was to be seen ahead of each of its steps, and at the end. Ahead of some steps, of these numbers from 1 on, others come between, behind the look.
func Watched(look func() string, between map[int]func(), thread func(s turn.Stepper)) []string {
	w := &watcher{look: look, between: between}
	thread(w)
	return append(w.seen, look())
}
