package glean

import (
	"iter"

	"glean/api"
	"glean/link"
	"glean/tasks"
)

// worker is one of a run's.
type worker struct {
	tasks *tasks.List
	asked bool // for a task, and no answer has come

	// The ends of links that are here, by the numbers of the workers at the other ends; nil at its own.
	out []*link.Out
	in  []*link.In

	// Work messages that it sent, and that came to it; black since one came, until it gives the token away.
	sent, came int
	black      bool

	token *token // nil where it is not
}

// isConfig tells whether there may be a run of these numbers.
func isConfig(c api.Config) bool {
	workers := 2 <= c.Workers && c.Workers <= api.MaxWorkers
	room := 1 <= c.Room && c.Room <= api.MaxRoom
	way := c.Way == api.Ring || c.Way == api.Waves
	return workers && room && way
}

// newWorkers are those that a run begins with: the first task is with worker 0.
func newWorkers(c api.Config, first api.Task) []worker {
	all := make([]worker, c.Workers)
	for w := range all {
		all[w] = worker{tasks: tasks.New(c.Room), out: newEnds(w, c.Workers, link.NewOut), in: newEnds(w, c.Workers, link.NewIn)}
	}
	all[0].tasks = tasks.New(c.Room, first)
	if c.Way == api.Ring {
		all[0].token = &token{}
	}
	return all
}

// newEnds are worker w's ends of links, all of one sort.
func newEnds[End any](w, workers int, end func() *End) []*End {
	all := make([]*End, workers)
	for other := range all {
		if other != w {
			all[other] = end()
		}
	}
	return all
}

// again tells the messages that a worker has to send again: of each link the oldest thing that isn't known to have come.
func (w *worker) again() iter.Seq[api.Message] {
	return func(yield func(api.Message) bool) {
		for _, l := range w.out {
			if l == nil {
				continue
			}
			if m, ok := l.Oldest(); ok && !yield(m) {
				return
			}
		}
	}
}

// bring gets values that worker w found to worker 0.
func (r *Run) bring(w int, vs ...api.Value) {
	if w == 0 {
		r.kept.Keep(vs...)
		return
	}
	for _, v := range vs {
		r.sendWork(w, 0, api.Message{Kind: api.Result, V: v})
	}
}

// sendWork sends work messages from one worker to another, and counts them.
func (r *Run) sendWork(from, to int, things ...api.Message) {
	r.workers[from].sent += len(things)
	r.send(from, to, things...)
}

// send sends things on the link from one worker to another.
func (r *Run) send(from, to int, things ...api.Message) {
	for _, m := range things {
		m.From, m.To = from, to
		r.post.Put(r.workers[from].out[to].Send(m))
	}
}
