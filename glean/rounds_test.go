package glean

import (
	"fmt"
	"slices"
	"testing"

	"glean/api"
)

func ExampleRun_Check() {
	p := api.Program{Kinds: []api.Kind{{A: 2, B: 1}}, Arg: 3}
	r, _ := New(api.Config{Workers: 2, Room: 1, Way: api.Waves}, p)
	r.Work(0)
	for range 2 {
		r.Check()
		messages, _ := r.Messages()
		fmt.Println(messages[0].Kind == api.Wave, messages[0].Round, r.Check() == api.ErrBusy)
		for r.Deliver(0) == api.OK {
		}
	}
	fmt.Println(r.Announced())
	fmt.Println(r.Check() == api.OK)
	fmt.Println(r.Announced())
	// Output:
	// true 1 true
	// true 2 true
	// [] false 0
	// true
	// [{ 7}] true 0
}

func wave(to, no, round int) api.Message {
	return api.Message{To: to, No: no, Kind: api.Wave, Round: round}
}

func reportOf(from, no, round, sent, came int, idle bool) api.Message {
	return api.Message{From: from, No: no, Kind: api.Report, Round: round, Sent: sent, Came: came, Idle: idle}
}

// With all numbers of workers: nothing was ever stolen, so two rounds and a third Check are enough, and less is not.
func TestP10Rounds(t *testing.T) {
	for workers := 2; workers <= api.MaxWorkers; workers++ {
		r := start(t, workers, 1, api.Waves, single())
		answers(t, "Check() of one that is not idle", r.Check(), api.ErrBusy)
		hasMessages(t, r)
		r.Work(0)
		for round := 1; round <= 2; round++ {
			answers(t, "Check()", r.Check(), api.OK)
			var waves, reports []api.Message
			for w := 1; w < workers; w++ {
				waves = append(waves, wave(w, round, round))
				reports = append(reports, reportOf(w, round, round, 0, 0, true), ack(w, 0, round))
			}
			hasMessages(t, r, waves...)
			for range waves {
				answers(t, "Check() ahead of a Wave", r.Check(), api.ErrBusy)
				deliver(t, r, 0)
			}
			hasMessages(t, r, reports...)
			for range waves {
				answers(t, "Check() ahead of a Report", r.Check(), api.ErrBusy)
				deliver(t, r, 0, 0)
			}
			hasAnnounced(t, r, single(), false)
			deliverAll(t, r)
		}
		answers(t, "Check()", r.Check(), api.OK)
		hasAnnounced(t, r, single(), true)
		hasMessages(t, r)
	}
}

// Whichever Report is the last one, and whether it or its Wave is lost: ahead of it Check is refused, and nothing changes.
func TestP10AllReports(t *testing.T) {
	for last := 1; last < 5; last++ {
		r := start(t, 5, 1, api.Waves, single())
		r.Work(0)
		for round := 1; round <= 2; round++ {
			answers(t, "Check()", r.Check(), api.OK)
			lose(t, r, wave(last, round, round))
			deliverAll(t, r)
			answers(t, "Check() without a Wave", r.Check(), api.ErrBusy)
			hasMessages(t, r)
			r.Tick(0)
			deliver(t, r, 0)
			hasMessages(t, r, reportOf(last, round, round, 0, 0, true), ack(last, 0, round))
			r.Drop(0)
			deliverAll(t, r)
			answers(t, "Check() without a Report", r.Check(), api.ErrBusy)
			hasMessages(t, r)
			r.Tick(last)
			deliverAll(t, r)
			hasAnnounced(t, r, single(), false)
		}
		answers(t, "Check()", r.Check(), api.OK)
		hasAnnounced(t, r, single(), true)
	}
}

// A Report that comes twice counts once: another one is still missing.
func TestP10ReportTwice(t *testing.T) {
	r := start(t, 3, 1, api.Waves, single())
	r.Work(0)
	r.Check()
	deliver(t, r, 0)
	r.Drop(0)
	hasMessages(t, r, reportOf(1, 1, 1, 0, 0, true), ack(1, 0, 1))
	r.Twice(0)
	r.Twice(0)
	deliverAll(t, r)
	answers(t, "Check()", r.Check(), api.ErrBusy)
	r.Tick(0)
	r.Twice(0)
	hasMessages(t, r, wave(2, 1, 1), wave(2, 1, 1))
	deliver(t, r, 0)
	hasMessages(t, r, wave(2, 1, 1), reportOf(2, 1, 1, 0, 0, true), ack(2, 0, 1))
	deliver(t, r, 0)
	hasMessages(t, r, reportOf(2, 1, 1, 0, 0, true), ack(2, 0, 1), ack(2, 0, 1))
	deliverAll(t, r)
	answers(t, "Check()", r.Check(), api.OK)
	hasMessages(t, r, wave(1, 2, 2), wave(2, 2, 2))
}

// A Report tells of the worker as it is when the Wave comes to it, not when it was sent or arrived.
func TestP10ReportTells(t *testing.T) {
	r := start(t, 2, 3, api.Waves, example())
	r.Work(0)
	r.Steal(1, 0)
	deliver(t, r, 0)
	workAll(t, r)
	r.Check()
	granted := grant(0, 1, 1, api.Task{ID: "0", Arg: 1})
	hasMessages(t, r, granted, ack(0, 1, 1), wave(1, 2, 1))
	deliver(t, r, 2)
	hasMessages(t, r, granted, ack(0, 1, 1), ack(1, 0, 0))
	deliver(t, r, 0)
	hasMessages(t, r, ack(0, 1, 1), ack(1, 0, 0), reportOf(1, 2, 1, 0, 1, false), ack(1, 0, 2))
	deliverAll(t, r)
	r.Check()
	r.Work(1)
	deliver(t, r, 0)
	hasMessages(t, r, result(1, 3, "0", 3), reportOf(1, 4, 2, 1, 1, false), ack(1, 0, 3))
	deliverAll(t, r)
	r.Check()
	r.Work(1)
	deliver(t, r, 0)
	hasMessages(t, r, result(1, 5, "00", 1), reportOf(1, 6, 3, 2, 1, true), ack(1, 0, 4))
}

// rounds takes so many of them, and holds that none announces anything.
func rounds(t *testing.T, r *Run, p api.Program, most int) {
	t.Helper()
	for range most {
		answers(t, "Check()", r.Check(), api.OK)
		hasAnnounced(t, r, p, false)
		deliverAll(t, r)
		hasAnnounced(t, r, p, false)
	}
}

// In each of the rounds as much came as was sent, and the numbers stay the same, but a worker has a task. When it is done, the numbers are others: it takes two more rounds.
func TestP10Busy(t *testing.T) {
	p := example()
	p.Arg = 1
	r := start(t, 3, 3, api.Waves, p)
	r.Work(0)
	r.Steal(2, 0)
	deliverAll(t, r)
	rounds(t, r, p, 5)
	r.Work(2)
	deliverAll(t, r)
	rounds(t, r, p, 2)
	answers(t, "Check()", r.Check(), api.OK)
	hasAnnounced(t, r, p, true)
}

// Worker 0's own report is of the time when the round began: what came since then is told in the next one.
func TestP10OwnReport(t *testing.T) {
	p := example()
	p.Arg = 1
	r := start(t, 2, 3, api.Waves, p)
	r.Work(0)
	r.Steal(1, 0)
	deliverAll(t, r)
	r.Work(1)
	rounds(t, r, p, 3)
	answers(t, "Check()", r.Check(), api.OK)
	hasAnnounced(t, r, p, true)
}

// All are idle and the numbers stay the same, but a Grant has not come.
func TestP10OnItsWay(t *testing.T) {
	r := start(t, 3, 3, api.Waves, example())
	r.Steal(1, 0)
	deliverAll(t, r)
	r.Work(1)
	r.Steal(2, 1)
	deliver(t, r, 0, 0)
	lost := grant(1, 2, 1, api.Task{ID: "0", Arg: 1})
	lose(t, r, lost)
	r.Work(1)
	deliverAll(t, r)
	for w := range 3 {
		hasTasks(t, r, w)
	}
	rounds(t, r, example(), 5)
	r.Tick(1)
	hasMessages(t, r, lost)
	deliverAll(t, r)
	hasTasks(t, r, 2, "0")
	rounds(t, r, example(), 5)
	for range 2 {
		r.Work(2)
	}
	deliverAll(t, r)
	rounds(t, r, example(), 2)
	answers(t, "Check()", r.Check(), api.OK)
	hasAnnounced(t, r, example(), true)
}

// Worker 0 is not idle while it waits for Reports, and has them: it has to be idle.
func TestP10CheckIdle(t *testing.T) {
	r := start(t, 2, 3, api.Waves, example())
	r.Steal(1, 0)
	deliverAll(t, r)
	r.Work(1)
	rounds(t, r, example(), 1)
	r.Steal(0, 1)
	deliverAll(t, r)
	hasTasks(t, r, 0, "0")
	answers(t, "Check() of one that is not idle", r.Check(), api.ErrBusy)
	hasMessages(t, r)
	r.Work(0)
	answers(t, "Check() of one that is not idle", r.Check(), api.ErrBusy)
	r.Work(0)
	rounds(t, r, example(), 1)
}

// Waves that find the list full were sent all the same, and so were Reports.
func TestP10Full(t *testing.T) {
	for room := range 3 {
		r := start(t, 3, 1, api.Waves, single())
		r.Work(0)
		r.Steal(1, 2)
		fill(t, r, api.MaxMessages-room)
		answers(t, "Check()", r.Check(), api.OK)
		want := append(slices.Repeat([]api.Message{request(1, 2, 1)}, api.MaxMessages-room), wave(1, 1, 1), wave(2, 1, 1))
		hasMessages(t, r, want[:api.MaxMessages]...)
		answers(t, "Check()", r.Check(), api.ErrBusy)
		empty(t, r)
		r.Tick(0)
		hasMessages(t, r, wave(1, 1, 1), wave(2, 1, 1))
		fill(t, r, api.MaxMessages)
		deliver(t, r, api.MaxMessages-1)
		if got := r.post[api.MaxMessages-1]; got != reportOf(2, 1, 1, 0, 0, true) {
			t.Errorf("in a full list, behind a Wave: %v", got)
		}
		empty(t, r)
		r.Tick(2)
		hasMessages(t, r, reportOf(2, 1, 1, 0, 0, true))
		deliverAll(t, r)
		answers(t, "Check()", r.Check(), api.ErrBusy)
		r.Tick(0)
		deliverAll(t, r)
		answers(t, "Check()", r.Check(), api.OK)
	}
}
