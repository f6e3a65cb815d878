package glean

import "glean/api"

// isAnswered refuses as long as a Report of the last round has not come.
func (r *Run) isAnswered() api.Errno {
	if !r.rounds.Answered() {
		return api.ErrBusy
	}
	return api.OK
}

// checkRounds lets worker 0, which has all Reports, announce that all is done, or begin a new round.
func (r *Run) checkRounds() api.Errno {
	if r.rounds.ShowEnd() {
		r.announced = true
		return api.OK
	}
	no := r.rounds.Begin(len(r.workers))
	r.rounds.Note(r.workers[0].report(no))
	for w := 1; w < len(r.workers); w++ {
		r.send(0, w, api.Message{Kind: api.Wave, Round: no})
	}
	return api.OK
}

// report is what a worker tells in a round.
func (w *worker) report(round int) api.Message {
	return api.Message{Kind: api.Report, Round: round, Sent: w.sent, Came: w.came, Idle: w.tasks.Idle()}
}
