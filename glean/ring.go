package glean

import "glean/api"

// token is what goes round: of the workers that it was with, how many more work messages they sent than came to them, and whether one was black.
type token struct {
	count int
	black bool
	round bool // it came to worker 0 again
}

// takeToken lets a worker have the token that came to it.
func (r *Run) takeToken(m api.Message) {
	r.workers[m.To].token = &token{count: m.Count, black: m.Black, round: m.To == 0}
}

// told is the token that a worker has, when it tells of this one too.
func (w *worker) told() token {
	t := *w.token
	t.count += w.sent - w.came
	t.black = t.black || w.black
	return t
}

// showsEnd tells whether a token that tells of all workers shows that all is done.
func (t token) showsEnd() bool {
	return t.round && !t.black && t.count == 0
}

// isPasser refuses worker 0: it is the one that looks at the token.
func isPasser(w int) step {
	return func() api.Errno {
		if w == 0 {
			return api.ErrBusy
		}
		return api.OK
	}
}

// hasToken refuses a worker that has not the token. With Waves none has.
func (r *Run) hasToken(w int) step {
	return func() api.Errno {
		if r.workers[w].token == nil {
			return api.ErrBusy
		}
		return api.OK
	}
}

// passToken lets a worker that has the token hand it on.
func (r *Run) passToken(w int) step {
	return func() api.Errno {
		r.sendToken(w, w-1, r.workers[w].told())
		return api.OK
	}
}

// checkToken lets worker 0, which has the token, announce that all is done, or send the token round anew.
func (r *Run) checkToken() api.Errno {
	if r.workers[0].told().showsEnd() {
		r.announced = true
		return api.OK
	}
	r.sendToken(0, len(r.workers)-1, token{})
	return api.OK
}

// sendToken lets a worker that has the token give it away. It is white then: that it was black the token tells, or is why there is a new one.
func (r *Run) sendToken(from, to int, t token) {
	own := &r.workers[from]
	own.token, own.black = nil, false
	r.send(from, to, api.Message{Kind: api.Token, Count: t.count, Black: t.black})
}
