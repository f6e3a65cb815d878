package waves

import (
	"testing"

	"glean/api"
)

func report(sent, came int, idle bool) api.Message {
	return api.Message{Kind: api.Report, Sent: sent, Came: came, Idle: idle}
}

// answered begins a round and notes all of its reports.
func answered(r *Rounds, reports ...api.Message) {
	r.Begin(len(reports))
	r.Note(reports...)
}

func TestNumbers(t *testing.T) {
	var r, other Rounds
	for want := 1; want <= 50; want++ {
		if got := r.Begin(2); got != want {
			t.Errorf("round %d has the number %d", want, got)
		}
		r.Note(report(0, 0, true), report(1, 1, false))
	}
	if got := other.Begin(2); got != 1 {
		t.Errorf("another's first round has the number %d", got)
	}
}

func TestAnswered(t *testing.T) {
	var r Rounds
	if !r.Answered() {
		t.Error("no round was begun, and a report is missing")
	}
	for reports := 1; reports <= 5; reports++ {
		r.Begin(reports)
		for i := range reports {
			if r.Answered() {
				t.Errorf("answered by %d of %d", i, reports)
			}
			r.Note()
			r.Note(report(i, i, true))
		}
		if !r.Answered() {
			t.Errorf("not answered by all of %d", reports)
		}
	}
}

// All numbers of two rounds, and who was idle in them.
func TestShowEnd(t *testing.T) {
	for bits := range 1 << 6 {
		bit := func(i int) int { return bits >> i & 1 }
		var r Rounds
		answered(&r, report(3, 4, true), report(2+bit(0), 1+bit(1), bit(4) == 1))
		answered(&r, report(3, 5, true), report(3+bit(2), 1+bit(3), bit(5) == 1))
		sentBefore, cameBefore, sent, came := 5+bit(0), 5+bit(1), 6+bit(2), 6+bit(3)
		want := sentBefore == cameBefore && sent == came && sent == sentBefore && bit(5) == 1
		if got := r.ShowEnd(); got != want {
			t.Errorf("%d sent, %d came, then %d and %d, idle at last %d: %t", sentBefore, cameBefore, sent, came, bit(5), got)
		}
	}
}

// Who was busy a round before does not matter, and anyone who is busy in the last does.
func TestShowEndIdle(t *testing.T) {
	for busy := range 4 {
		all := []api.Message{report(1, 0, true), report(0, 1, true), report(0, 0, true)}
		some := []api.Message{report(1, 0, true), report(0, 1, true), report(0, 0, true)}
		if busy < 3 {
			some[busy].Idle = false
		}
		var r Rounds
		answered(&r, some...)
		answered(&r, all...)
		if !r.ShowEnd() {
			t.Errorf("%d was busy a round before: no end", busy)
		}
		answered(&r, some...)
		if got := r.ShowEnd(); got != (busy == 3) {
			t.Errorf("%d is busy: %t", busy, got)
		}
	}
}

// Nothing was ever sent: still it takes two rounds.
func TestShowEndTakesTwo(t *testing.T) {
	var r Rounds
	for rounds := range 5 {
		if got := r.ShowEnd(); got != (rounds >= 2) {
			t.Errorf("after %d rounds: %t", rounds, got)
		}
		answered(&r, report(0, 0, true), report(0, 0, true))
	}
}

// Of many rounds the last two are looked at, and no other.
func TestShowEndLastTwo(t *testing.T) {
	var r Rounds
	for i, c := range []struct {
		sent, came int
		want       bool
	}{
		{1, 0, false}, {1, 1, false}, {1, 1, true}, {2, 1, false}, {2, 2, false}, {3, 3, false}, {3, 2, false}, {3, 3, false}, {3, 3, true}, {3, 3, true},
	} {
		answered(&r, report(c.sent, 0, true), report(0, c.came, true))
		if got := r.ShowEnd(); got != c.want {
			t.Errorf("round %d, %d sent and %d came: %t", i+1, c.sent, c.came, got)
		}
	}
}
