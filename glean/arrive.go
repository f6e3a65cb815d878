package glean

import "glean/api"

// arrive lets a message arrive that is on its way no longer.
func (r *Run) arrive(m api.Message) {
	here := &r.workers[m.To]
	if m.Kind == api.Ack {
		here.out[m.From].Known(m.No)
		return
	}
	in := here.in[m.From]
	r.come(in.Arrive(m)...)
	// Whatever became of the message: its sender may have missed an earlier Ack.
	r.post.Put(api.Message{From: m.To, To: m.From, No: in.Came(), Kind: api.Ack})
}

// come lets things come to the workers that they were sent to, one after another.
func (r *Run) come(things ...api.Message) {
	for _, m := range things {
		here := &r.workers[m.To]
		switch m.Kind {
		case api.Request:
			r.answer(m.To, m.From)
		case api.Grant:
			here.countCome()
			here.asked = false
			here.tasks.Put(m.T)
		case api.Deny:
			here.asked = false
		case api.Result:
			here.countCome()
			r.kept.Keep(m.V)
		case api.Token:
			r.takeToken(m)
		case api.Wave:
			r.send(m.To, 0, here.report(m.Round))
		case api.Report:
			r.rounds.Note(m)
		}
	}
}

// answer lets a worker that was asked for a task give its oldest one away, or tell that it has none.
func (r *Run) answer(w, asker int) {
	own := r.workers[w].tasks
	if own.Idle() {
		r.send(w, asker, api.Message{Kind: api.Deny})
		return
	}
	r.sendWork(w, asker, api.Message{Kind: api.Grant, T: own.TakeOldest()})
}

// countCome counts a work message that has come.
func (w *worker) countCome() {
	w.came++
	w.black = true
}
