package glean

import (
	"fmt"
	"slices"
	"testing"

	"glean/api"
)

func ExampleRun_Pass() {
	p := api.Program{Kinds: []api.Kind{{A: 2, B: 1}}, Arg: 3}
	r, _ := New(api.Config{Workers: 2, Room: 1, Way: api.Ring}, p)
	r.Work(0)
	fmt.Println(r.Check() == api.OK)
	messages, _ := r.Messages()
	fmt.Println(messages[0].From, messages[0].To, messages[0].Kind == api.Token)
	r.Deliver(0)
	r.Deliver(0)
	fmt.Println(r.Pass(1) == api.OK)
	r.Deliver(0)
	fmt.Println(r.Check() == api.OK)
	fmt.Println(r.Announced())
	// Output:
	// true
	// 0 1 true
	// true
	// true
	// [{ 7}] true 0
}

// single is a program of one task.
func single() api.Program {
	return api.Program{Kinds: []api.Kind{{A: 5, B: -3}}, Arg: 4}
}

func tokenOf(from, to, no, count int, black bool) api.Message {
	return api.Message{From: from, To: to, No: no, Kind: api.Token, Count: count, Black: black}
}

// deliverAll lets all messages arrive, and what comes of them, the first ones first.
func deliverAll(t *testing.T, r *Run) {
	t.Helper()
	for range 1000 {
		if len(r.post) == 0 {
			return
		}
		deliver(t, r, 0)
	}
	t.Fatal("messages without an end")
}

// lose drops a message that is on its way.
func lose(t *testing.T, r *Run, m api.Message) {
	t.Helper()
	if i := slices.Index(r.post, m); i < 0 || r.Drop(i) != api.OK {
		t.Fatalf("to lose %v: %v", m, r.post)
	}
}

// answers holds what a call answered against what it should have.
func answers(t *testing.T, call string, got, want api.Errno) {
	t.Helper()
	if got != want {
		t.Errorf("%s = %d, want %d", call, got, want)
	}
}

// onlyHolder holds that worker at, and no other one, may give the token away; no worker, if at is -1. All are idle.
func onlyHolder(t *testing.T, r *Run, at int) {
	t.Helper()
	before, _ := r.Messages()
	for w := range r.workers {
		if w != at || w == 0 {
			answers(t, fmt.Sprintf("token at %d: Pass(%d)", at, w), r.Pass(w), api.ErrBusy)
		}
	}
	if at != 0 {
		answers(t, fmt.Sprintf("token at %d: Check()", at), r.Check(), api.ErrBusy)
	}
	hasMessages(t, r, before...)
}

// With all numbers of workers: from worker 0 to the last one, and down to worker 0.
func TestP9Round(t *testing.T) {
	for workers := 2; workers <= api.MaxWorkers; workers++ {
		r := start(t, workers, 1, api.Ring, single())
		answers(t, "Check() of one that is not idle", r.Check(), api.ErrBusy)
		r.Work(0)
		onlyHolder(t, r, 0)
		answers(t, "Check()", r.Check(), api.OK)
		hasMessages(t, r, tokenOf(0, workers-1, 1, 0, false))
		for w := workers - 1; w > 0; w-- {
			onlyHolder(t, r, -1)
			deliverAll(t, r)
			onlyHolder(t, r, w)
			answers(t, fmt.Sprintf("Pass(%d)", w), r.Pass(w), api.OK)
			hasMessages(t, r, tokenOf(w, w-1, 1, 0, false))
		}
		onlyHolder(t, r, -1)
		deliverAll(t, r)
		onlyHolder(t, r, 0)
		hasAnnounced(t, r, single(), false)
		answers(t, "Check()", r.Check(), api.OK)
		hasAnnounced(t, r, single(), true)
		hasMessages(t, r)
	}
}

func TestP9PassWorkers(t *testing.T) {
	for workers := 2; workers <= api.MaxWorkers; workers++ {
		for _, way := range []int{api.Ring, api.Waves} {
			r := start(t, workers, 3, way, example())
			for _, w := range edges() {
				want := api.ErrBusy
				if w < 0 || w >= workers {
					want = api.ErrWorker
				}
				answers(t, fmt.Sprintf("%d workers, way %d: Pass(%d)", workers, way, w), r.Pass(w), want)
			}
			hasMessages(t, r)
			hasTasks(t, r, 0, "")
		}
	}
}

// With Waves there is no token, also when all are idle.
func TestP9NoTokenWithWaves(t *testing.T) {
	r := start(t, 3, 3, api.Waves, single())
	r.Work(0)
	for range 3 {
		for w := range 3 {
			answers(t, fmt.Sprintf("Pass(%d)", w), r.Pass(w), api.ErrBusy)
		}
		if r.Check() == api.ErrDone {
			break
		}
		deliverAll(t, r)
	}
}

// Who has the token and a task keeps both.
func TestP9PassIdle(t *testing.T) {
	r := start(t, 3, 3, api.Ring, single())
	r.Work(0)
	r.Check()
	deliverAll(t, r)
	hand(r, 2, 3, api.Task{ID: "x"}, api.Task{ID: "y"})
	for range 2 {
		answers(t, "Pass(2) of one that is not idle", r.Pass(2), api.ErrBusy)
		hasMessages(t, r)
		r.Work(2)
		empty(t, r)
	}
	answers(t, "Pass(2)", r.Pass(2), api.OK)
	hasMessages(t, r, tokenOf(2, 1, 1, 2, false))
}

// At worker 0 too: it gets a task while it has the token.
func TestP9CheckIdle(t *testing.T) {
	r := start(t, 2, 3, api.Ring, example())
	answers(t, "Check() of one that is not idle", r.Check(), api.ErrBusy)
	r.Steal(1, 0)
	deliverAll(t, r)
	r.Work(1)
	r.Steal(0, 1)
	deliverAll(t, r)
	hasTasks(t, r, 0, "0")
	answers(t, "Check() of one that was granted a task", r.Check(), api.ErrBusy)
	hasMessages(t, r)
	hasAnnounced(t, r, example(), false)
}

// All that a token may say, and all that may be said of the worker: the sum, and black if one of them is.
func TestP9PassTells(t *testing.T) {
	for _, black := range []bool{false, true} {
		for _, own := range []bool{false, true} {
			for _, count := range []int{-3, 0, 2} {
				for _, sent := range []int{0, 1, 7} {
					for _, came := range []int{0, 1, 4} {
						r := start(t, 5, 3, api.Ring, single())
						r.send(4, 3, api.Message{Kind: api.Token, Count: count, Black: black})
						w := &r.workers[3]
						w.sent, w.came, w.black = sent, came, own
						deliverAll(t, r)
						answers(t, "Pass(3)", r.Pass(3), api.OK)
						hasMessages(t, r, tokenOf(3, 2, 1, count+sent-came, black || own))
						if w.sent != sent || w.came != came || w.black {
							t.Errorf("then %d sent, %d came, black %t", w.sent, w.came, w.black)
						}
						answers(t, "Pass(3) again", r.Pass(3), api.ErrBusy)
					}
				}
			}
		}
	}
}

// A token that came to worker 0 again shows the end if neither is black and the sum is 0; any other goes round anew, white, with Count 0.
func TestP9CheckLooks(t *testing.T) {
	for _, black := range []bool{false, true} {
		for _, own := range []bool{false, true} {
			for _, count := range []int{-2, -1, 0, 1, 2} {
				for _, sent := range []int{0, 1, 2} {
					for _, came := range []int{0, 1, 2} {
						r := start(t, 4, 3, api.Ring, single())
						r.Work(0)
						r.send(1, 0, api.Message{Kind: api.Token, Count: count, Black: black})
						w := &r.workers[0]
						w.sent, w.came, w.black = sent, came, own
						deliverAll(t, r)
						answers(t, "Check()", r.Check(), api.OK)
						want := !black && !own && count+sent-came == 0
						hasAnnounced(t, r, single(), want)
						if want {
							hasMessages(t, r)
							continue
						}
						hasMessages(t, r, tokenOf(0, 3, 1, 0, false))
						if w.sent != sent || w.came != came || w.black {
							t.Errorf("then %d sent, %d came, black %t", w.sent, w.came, w.black)
						}
						answers(t, "Check() again", r.Check(), api.ErrBusy)
					}
				}
			}
		}
	}
}

// A token is no other one for being lost, doubled or sent again: it comes once.
func TestP9TokenComesOnce(t *testing.T) {
	r := start(t, 3, 1, api.Ring, single())
	r.Work(0)
	r.Check()
	r.Drop(0)
	onlyHolder(t, r, -1)
	r.Tick(0)
	r.Twice(0)
	r.Twice(0)
	first := tokenOf(0, 2, 1, 0, false)
	hasMessages(t, r, first, first, first)
	deliver(t, r, 0)
	onlyHolder(t, r, 2)
	answers(t, "Pass(2)", r.Pass(2), api.OK)
	hasMessages(t, r, first, first, ack(2, 0, 1), tokenOf(2, 1, 1, 0, false))
	deliver(t, r, 0, 0)
	onlyHolder(t, r, -1)
	deliverAll(t, r)
	onlyHolder(t, r, 1)
}

// A token that is kept has not come.
func TestP9TokenIsKept(t *testing.T) {
	r := start(t, 2, 3, api.Ring, example())
	r.Work(0)
	r.Steal(1, 0)
	deliver(t, r, 0)
	r.Drop(1)
	workAll(t, r)
	answers(t, "Check()", r.Check(), api.OK)
	granted := grant(0, 1, 1, api.Task{ID: "0", Arg: 1})
	hasMessages(t, r, granted, tokenOf(0, 1, 2, 0, false))
	deliver(t, r, 1)
	onlyHolder(t, r, -1)
	deliver(t, r, 0)
	hasTasks(t, r, 1, "0")
	answers(t, "Pass(1) of one that is not idle", r.Pass(1), api.ErrBusy)
	for range 2 {
		r.Work(1)
	}
	empty(t, r)
	answers(t, "Pass(1)", r.Pass(1), api.OK)
	hasMessages(t, r, tokenOf(1, 0, 4, 1, true))
}

// A Grant comes to a worker that the token has left, white. The first Result of that worker makes the sum 0, but it makes worker 0 black.
func TestP9BehindTheToken(t *testing.T) {
	p := example()
	p.Arg = 3
	r := start(t, 3, 20, api.Ring, p)
	r.Steal(1, 0)
	deliverAll(t, r)
	r.Work(1)
	r.Check()
	deliverAll(t, r)
	r.Pass(2)
	r.Steal(2, 1)
	deliver(t, r, 0, 0)
	lose(t, r, grant(1, 2, 1, api.Task{ID: "0", Arg: 2}))
	for r.Work(1) == api.OK {
	}
	r.Pass(1)
	deliverAll(t, r)
	answers(t, "Check() of a black token", r.Check(), api.OK)
	deliverAll(t, r)
	r.Pass(2)
	hasMessages(t, r, tokenOf(2, 1, 3, 0, false))
	deliverAll(t, r)
	r.Tick(1)
	deliverAll(t, r)
	hasTasks(t, r, 2, "0")
	r.Pass(1)
	r.Work(2)
	deliverAll(t, r)
	hasTasks(t, r, 2, "00", "01")
	own := r.workers[0]
	if own.token == nil || own.token.black || own.token.count+own.sent-own.came != 0 || !own.black {
		t.Fatalf("worker 0: %v with %v", own, own.token)
	}
	answers(t, "Check() of a black worker", r.Check(), api.OK)
	hasAnnounced(t, r, p, false)
	for range 30 {
		turn(t, r)
	}
	hasAnnounced(t, r, p, true)
}

// All are idle and white, but a Grant has not come: the sum is 1, however often the token goes round.
func TestP9OnItsWay(t *testing.T) {
	r := start(t, 3, 3, api.Ring, example())
	r.Steal(1, 0)
	deliverAll(t, r)
	r.Work(1)
	r.Steal(2, 1)
	deliver(t, r, 0, 0)
	lose(t, r, grant(1, 2, 1, api.Task{ID: "0", Arg: 1}))
	r.Work(1)
	deliverAll(t, r)
	for range 4 {
		answers(t, "Check()", r.Check(), api.OK)
		hasAnnounced(t, r, example(), false)
		for w := 2; w > 0; w-- {
			deliverAll(t, r)
			answers(t, fmt.Sprintf("Pass(%d)", w), r.Pass(w), api.OK)
		}
		deliverAll(t, r)
	}
	own := r.workers[0]
	if own.token == nil || own.token.black || own.black || own.token.count+own.sent-own.came != 1 {
		t.Errorf("worker 0: %v with %v", own, own.token)
	}
	finish(t, r)
	hasAnnounced(t, r, example(), true)
}

// A Grant makes worker 1 black, and a Result worker 0: it takes another round, in which nothing comes.
func TestP9Black(t *testing.T) {
	p := example()
	p.Arg = 1
	r := start(t, 2, 3, api.Ring, p)
	r.Work(0)
	r.Steal(1, 0)
	deliverAll(t, r)
	r.Check()
	deliverAll(t, r)
	r.Work(1)
	r.Pass(1)
	hasMessages(t, r, result(1, 2, "0", 1), tokenOf(1, 0, 3, 0, true))
	deliverAll(t, r)
	if !r.workers[0].black || r.workers[1].black {
		t.Errorf("black: %t and %t", r.workers[0].black, r.workers[1].black)
	}
	answers(t, "Check()", r.Check(), api.OK)
	hasMessages(t, r, tokenOf(0, 1, 3, 0, false))
	if r.workers[0].black {
		t.Error("worker 0 is black behind a Check")
	}
	deliverAll(t, r)
	r.Pass(1)
	hasMessages(t, r, tokenOf(1, 0, 4, 0, false))
	deliverAll(t, r)
	hasAnnounced(t, r, p, false)
	answers(t, "Check()", r.Check(), api.OK)
	hasAnnounced(t, r, p, true)
}

// A Check whose Token finds the list full sent it all the same; so does a Pass.
func TestP9Full(t *testing.T) {
	r := start(t, 3, 1, api.Ring, single())
	r.Work(0)
	r.Steal(1, 2)
	fill(t, r, api.MaxMessages)
	answers(t, "Check()", r.Check(), api.OK)
	answers(t, "Check()", r.Check(), api.ErrBusy)
	empty(t, r)
	r.Tick(0)
	hasMessages(t, r, tokenOf(0, 2, 1, 0, false))
	deliverAll(t, r)
	r.Tick(1)
	fill(t, r, api.MaxMessages)
	answers(t, "Pass(2)", r.Pass(2), api.OK)
	answers(t, "Pass(2)", r.Pass(2), api.ErrBusy)
	empty(t, r)
	r.Tick(2)
	hasMessages(t, r, tokenOf(2, 1, 1, 0, false))
}
