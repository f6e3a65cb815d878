// Package glean: workers that share out a tree of tasks: see DOC.md.
package glean

import (
	"slices"

	"glean/api"
	"glean/post"
	"glean/tree"
	"glean/values"
	"glean/waves"
)

// Run is workers, and the messages between them.
type Run struct {
	program api.Program
	way     int
	workers []worker
	post    post.List

	// Of worker 0.
	kept   values.Set
	rounds waves.Rounds

	// Since one of these nothing changes any more.
	announced bool // that all is done
	overflow  bool // a worker had no room
}

// Unfold tells what all tasks of a program come to (P3).
func Unfold(p api.Program) ([]api.Value, api.Errno) {
	if !tree.IsProgram(p) {
		return nil, api.ErrProgram
	}
	all := values.Set{}
	for t := range tree.Tasks(p) {
		if len(all) == api.MaxTasks {
			return nil, api.ErrLarge
		}
		all.Keep(tree.Value(p, t))
	}
	return all.List(), api.OK
}

// New makes a run (P4).
func New(c api.Config, p api.Program) (*Run, api.Errno) {
	if !isConfig(c) {
		return nil, api.ErrConfig
	}
	if _, e := Unfold(p); e != api.OK {
		return nil, e
	}
	r := &Run{program: tree.Copy(p), way: c.Way, workers: newWorkers(c, tree.First(p)), kept: values.Set{}}
	return r, api.OK
}

// Work lets a worker do a task (P5).
func (r *Run) Work(w int) api.Errno {
	return r.change(r.isWorker(w), r.hasTask(w), r.doYoungest(w))
}

// Steal lets a worker ask another one for a task (P6).
func (r *Run) Steal(w int, victim int) api.Errno {
	return r.change(r.isWorker(w), r.isWorker(victim), areTwo(w, victim), r.isIdle(w), r.hasAnswer(w), r.sendRequest(w, victim))
}

// Tasks tells a worker's tasks (P5).
func (r *Run) Tasks(w int) ([]api.Task, api.Errno) {
	if e := r.ask(r.isWorker(w)); e != api.OK {
		return nil, e
	}
	return slices.Collect(r.workers[w].tasks.All()), api.OK
}

// Messages tells all messages on their way (P7).
func (r *Run) Messages() ([]api.Message, api.Errno) {
	if e := r.ask(); e != api.OK {
		return nil, e
	}
	return r.post.Copy(), api.OK
}

// Deliver lets a message arrive (P8).
func (r *Run) Deliver(i int) api.Errno {
	return r.change(r.isMessage(i), r.deliver(i))
}

// Drop loses a message (P7).
func (r *Run) Drop(i int) api.Errno {
	return r.change(r.isMessage(i), r.drop(i))
}

// Twice doubles a message (P7).
func (r *Run) Twice(i int) api.Errno {
	return r.change(r.isMessage(i), r.double(i))
}

// Tick lets a worker send again what is not known to have come (P7).
func (r *Run) Tick(w int) api.Errno {
	return r.change(r.isWorker(w), r.sendAgain(w))
}

// Pass lets a worker hand the token on (P9).
func (r *Run) Pass(w int) api.Errno {
	return r.change(r.isWorker(w), isPasser(w), r.hasToken(w), r.isIdle(w), r.passToken(w))
}

// Check lets worker 0 find out whether all is done (P9, P10).
func (r *Run) Check() api.Errno {
	return r.change(r.isIdle(0), r.check)
}

// Announced tells what was announced (P11).
func (r *Run) Announced() ([]api.Value, bool, api.Errno) {
	if e := r.ask(); e != api.OK || !r.announced {
		return nil, false, e
	}
	return r.kept.List(), true, api.OK
}
