// Package waves: what all workers report, round by round.
package waves

import "glean/api"

// Rounds are those that were begun; at first none. Of all that was reported only what the last two rounds come to is kept.
type Rounds struct {
	no           int // the last round's number
	missing      int // how many of its reports have not come
	last, before totals
}

// totals is what the reports of one round come to.
type totals struct {
	sent, came int
	busy       bool // one of the workers was not idle
}

// Begin begins a round, which takes so many reports, and tells its number.
func (r *Rounds) Begin(reports int) int {
	r.no++
	r.missing = reports
	r.last, r.before = totals{}, r.last
	return r.no
}

// Note notes reports of the round that was begun last.
func (r *Rounds) Note(reports ...api.Message) {
	for _, m := range reports {
		r.missing--
		r.last.add(m)
	}
}

// Answered tells whether no report is missing.
func (r *Rounds) Answered() bool {
	return r.missing == 0
}

// ShowEnd tells whether the rounds, all of them answered, show that all is done. The reports of one round are of different times, so that one alone could miss what went on between them.
func (r *Rounds) ShowEnd() bool {
	same := r.last.sent == r.before.sent
	return r.no >= 2 && r.before.even() && r.last.even() && same && !r.last.busy
}

func (t *totals) add(report api.Message) {
	t.sent += report.Sent
	t.came += report.Came
	t.busy = t.busy || !report.Idle
}

// even tells whether as much has come as was sent.
func (t *totals) even() bool {
	return t.sent == t.came
}
