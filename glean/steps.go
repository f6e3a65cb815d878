package glean

import (
	"glean/api"
	"glean/tree"
)

// step is a part of a call: a condition, or what is done. Making one does not look at the run, so that a run that is nil may be asked for it; taking one answers OK, or the error with which the call ends.
type step func() api.Errno

// inTurn takes steps one after another, as long as they answer OK: of several errors the one named first is the answer.
func inTurn(steps ...step) api.Errno {
	for _, s := range steps {
		if e := s(); e != api.OK {
			return e
		}
	}
	return api.OK
}

// ask takes the steps of a call that changes nothing.
func (r *Run) ask(steps ...step) api.Errno {
	if r == nil {
		return api.ErrNil
	}
	return inTurn(steps...)
}

// change takes the steps of a call that changes something.
func (r *Run) change(steps ...step) api.Errno {
	return r.ask(r.goesOn, r.hadRoom, func() api.Errno { return inTurn(steps...) })
}

// goesOn refuses all once all is announced.
func (r *Run) goesOn() api.Errno {
	if r.announced {
		return api.ErrDone
	}
	return api.OK
}

// hadRoom refuses all once a worker had no room.
func (r *Run) hadRoom() api.Errno {
	if r.overflow {
		return api.ErrOverflow
	}
	return api.OK
}

// isWorker refuses a number that no worker has.
func (r *Run) isWorker(w int) step {
	return func() api.Errno {
		if w < 0 || w >= len(r.workers) {
			return api.ErrWorker
		}
		return api.OK
	}
}

// hasTask refuses a worker that is idle.
func (r *Run) hasTask(w int) step {
	return func() api.Errno {
		if r.workers[w].tasks.Idle() {
			return api.ErrIdle
		}
		return api.OK
	}
}

// areTwo refuses a worker that would have to do with itself.
func areTwo(w, other int) step {
	return func() api.Errno {
		if w == other {
			return api.ErrWorker
		}
		return api.OK
	}
}

// isIdle refuses a worker that has a task.
func (r *Run) isIdle(w int) step {
	return func() api.Errno {
		if !r.workers[w].tasks.Idle() {
			return api.ErrBusy
		}
		return api.OK
	}
}

// hasAnswer refuses a worker that waits for an answer.
func (r *Run) hasAnswer(w int) step {
	return func() api.Errno {
		if r.workers[w].asked {
			return api.ErrBusy
		}
		return api.OK
	}
}

// isMessage refuses a number that no message has.
func (r *Run) isMessage(i int) step {
	return func() api.Errno {
		if !r.post.Has(i) {
			return api.ErrMessage
		}
		return api.OK
	}
}

// doYoungest lets a worker that isn't idle do its youngest task.
func (r *Run) doYoungest(w int) step {
	return func() api.Errno {
		own := r.workers[w].tasks
		t := own.Youngest()
		if !own.Replace(tree.Children(r.program, t)) {
			r.overflow = true
			return api.ErrOverflow
		}
		r.bring(w, tree.Value(r.program, t))
		return api.OK
	}
}

// sendRequest lets a worker ask another one for a task.
func (r *Run) sendRequest(w, victim int) step {
	return func() api.Errno {
		r.workers[w].asked = true
		r.send(w, victim, api.Message{Kind: api.Request})
		return api.OK
	}
}

// deliver takes a message that there is out of the list, and lets it arrive.
func (r *Run) deliver(i int) step {
	return func() api.Errno {
		r.arrive(r.post.Take(i))
		return api.OK
	}
}

// drop loses a message that there is.
func (r *Run) drop(i int) step {
	return func() api.Errno {
		r.post.Take(i)
		return api.OK
	}
}

// double puts one just like a message that there is on its way.
func (r *Run) double(i int) step {
	return func() api.Errno {
		r.post.Put(r.post[i])
		return api.OK
	}
}

// check lets worker 0, which is idle, find out in the run's way whether all is done.
func (r *Run) check() api.Errno {
	if r.way == api.Ring {
		return inTurn(r.hasToken(0), r.checkToken)
	}
	return inTurn(r.isAnswered, r.checkRounds)
}

// sendAgain puts on its way what a worker has to send again.
func (r *Run) sendAgain(w int) step {
	return func() api.Errno {
		for m := range r.workers[w].again() {
			r.post.Put(m)
		}
		return api.OK
	}
}
