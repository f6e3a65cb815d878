package glean

import (
	"glean/api"
	"glean/tree"
)

// step is a part of a call: a condition, or what is done. Making one does not look at the run, so that a run that is nil may be asked for it; taking one answers OK, or the error with which the call ends.
type step func() api.Errno

// inTurn takes steps one after another, as long as they answer OK: of several errors the one named first is the answer.
func inTurn(steps ...step) api.Errno {
	for _, s := range steps {
		if e := s(); e != api.OK {
			return e
		}
	}
	return api.OK
}

// ask takes the steps of a call that changes nothing.
func (r *Run) ask(steps ...step) api.Errno {
	if r == nil {
		return api.ErrNil
	}
	return inTurn(steps...)
}

// change takes the steps of a call that changes something.
func (r *Run) change(steps ...step) api.Errno {
	return r.ask(r.hadRoom, func() api.Errno { return inTurn(steps...) })
}

// hadRoom refuses all once a worker had no room.
func (r *Run) hadRoom() api.Errno {
	if r.overflow {
		return api.ErrOverflow
	}
	return api.OK
}

// isWorker refuses a number that no worker has.
func (r *Run) isWorker(w int) step {
	return func() api.Errno {
		if w < 0 || w >= len(r.workers) {
			return api.ErrWorker
		}
		return api.OK
	}
}

// hasTask refuses a worker that is idle.
func (r *Run) hasTask(w int) step {
	return func() api.Errno {
		if r.workers[w].tasks.Idle() {
			return api.ErrIdle
		}
		return api.OK
	}
}

// doYoungest lets a worker that isn't idle do its youngest task.
func (r *Run) doYoungest(w int) step {
	return func() api.Errno {
		own := r.workers[w].tasks
		t := own.Youngest()
		if !own.Replace(tree.Children(r.program, t)) {
			r.overflow = true
			return api.ErrOverflow
		}
		r.bring(w, tree.Value(r.program, t))
		return api.OK
	}
}
