package glean

import (
	"fmt"
	"testing"

	"glean/api"
)

func ExampleRun_Steal() {
	p := api.Program{Kinds: []api.Kind{{A: 2, B: 1, Kids: []api.Kid{{Kind: 0, Less: 1}, {Kind: 0, Less: 2}}}}, Arg: 2}
	r, _ := New(api.Config{Workers: 2, Room: 3, Way: api.Ring}, p)
	r.Work(0)
	fmt.Println(r.Steal(1, 0) == api.OK)
	messages, _ := r.Messages()
	for _, m := range messages {
		fmt.Println(m.From, m.To, m.No, m.Kind == api.Request)
	}
	fmt.Println(r.Steal(1, 0) == api.ErrBusy)
	// Output:
	// true
	// 1 0 1 true
	// true
}

// request is one on its way.
func request(from, to, no int) api.Message {
	return api.Message{From: from, To: to, No: no, Kind: api.Request}
}

func TestP6EachLink(t *testing.T) {
	for workers := 2; workers <= api.MaxWorkers; workers++ {
		for w := range workers {
			for victim := range workers {
				r := start(t, workers, 3, 1+w%2, example())
				hand(r, 0, 3)
				want := api.OK
				if w == victim {
					want = api.ErrWorker
				}
				if e := r.Steal(w, victim); e != want {
					t.Errorf("%d workers: Steal(%d, %d) = %d, want %d", workers, w, victim, e, want)
				}
				if w == victim {
					hasMessages(t, r)
				} else {
					hasMessages(t, r, request(w, victim, 1))
				}
			}
		}
	}
}

func TestP6Workers(t *testing.T) {
	for workers := 2; workers <= api.MaxWorkers; workers++ {
		r := start(t, workers, 3, api.Waves, example())
		for _, n := range edges() {
			if n >= 0 && n < workers {
				continue
			}
			for _, w := range edges() {
				if e := r.Steal(n, w); e != api.ErrWorker {
					t.Errorf("%d workers: Steal(%d, %d) = %d", workers, n, w, e)
				}
				if e := r.Steal(w, n); e != api.ErrWorker {
					t.Errorf("%d workers: Steal(%d, %d) = %d", workers, w, n, e)
				}
			}
		}
		for w := range workers {
			if e := r.Steal(w, w); e != api.ErrWorker {
				t.Errorf("%d workers: Steal(%d, %d) = %d", workers, w, w, e)
			}
		}
		hasMessages(t, r)
	}
}

// A worker with a task may not ask; when it has done the last one, it may.
func TestP6Idle(t *testing.T) {
	r := start(t, 3, 3, api.Ring, example())
	for range 4 {
		for victim := 1; victim < 3; victim++ {
			if e := r.Steal(0, victim); e != api.ErrBusy {
				t.Errorf("Steal(0, %d) with a task: %d", victim, e)
			}
		}
		hasMessages(t, r)
		if e := r.Work(0); e != api.OK {
			t.Errorf("Work(0): %d", e)
		}
	}
	if e := r.Steal(0, 2); e != api.OK {
		t.Errorf("Steal(0, 2) without a task: %d", e)
	}
	hasMessages(t, r, request(0, 2, 1))
	hasTasks(t, r, 0)
}

// A refused call sends nothing, and does not count as having asked.
func TestP6RefusalIsNoRequest(t *testing.T) {
	r := start(t, 3, 3, api.Ring, example())
	hand(r, 1, 3, api.Task{ID: "0"})
	for _, c := range [][2]int{{1, 0}, {1, 1}, {1, 3}, {1, -1}} {
		r.Steal(c[0], c[1])
	}
	hasMessages(t, r)
	if e := r.Work(1); e != api.OK {
		t.Errorf("Work(1): %d", e)
	}
	if e := r.Steal(1, 2); e != api.OK {
		t.Errorf("Steal(1, 2) after refused calls: %d", e)
	}
	hasMessages(t, r, api.Message{From: 1, No: 1, Kind: api.Result, V: api.Value{ID: "0", V: 1}}, request(1, 2, 1))
}

// Who has asked may not ask again, whomever it asks and whatever became of its Request; others may.
func TestP6AskedAlready(t *testing.T) {
	r := start(t, 4, 3, api.Ring, example())
	refused := func(when string) {
		t.Helper()
		for _, victim := range []int{0, 2, 3} {
			if e := r.Steal(1, victim); e != api.ErrBusy {
				t.Errorf("Steal(1, %d) %s: %d", victim, when, e)
			}
		}
	}
	r.Steal(1, 2)
	refused("again")
	r.Twice(0)
	refused("after its Request was doubled")
	r.Drop(0)
	r.Drop(0)
	refused("after its Request was lost")
	r.Tick(1)
	refused("after its Request was sent again")
	if e := r.Steal(1, 1); e != api.ErrWorker {
		t.Errorf("Steal(1, 1) = %d, want ErrWorker", e)
	}
	for _, c := range [][2]int{{2, 1}, {3, 1}} {
		if e := r.Steal(c[0], c[1]); e != api.OK {
			t.Errorf("Steal(%d, %d) = %d", c[0], c[1], e)
		}
	}
	hasMessages(t, r, request(1, 2, 1), request(2, 1, 1), request(3, 1, 1))
}

// A Request is no work message, and has its link's next number.
func TestP6Number(t *testing.T) {
	r := start(t, 3, 3, api.Ring, example())
	hand(r, 2, 3, api.Task{ID: "1"}, api.Task{ID: "00"})
	r.Work(2)
	r.Work(2)
	if e := r.Steal(2, 0); e != api.OK {
		t.Errorf("Steal(2, 0): %d", e)
	}
	result := func(no int, id string) api.Message {
		return api.Message{From: 2, No: no, Kind: api.Result, V: api.Value{ID: id, V: 1}}
	}
	hasMessages(t, r, result(1, "00"), result(2, "1"), request(2, 0, 3))
	if got := r.workers[2].sent; got != 2 {
		t.Errorf("worker 2 has sent %d work messages, want 2", got)
	}
	hand(r, 2, 3, api.Task{ID: "1"})
	r.Work(2)
	hasMessages(t, r, result(1, "00"), result(2, "1"), request(2, 0, 3), result(4, "1"))
}

// A Request that finds MaxMessages on their way is lost, but it was sent: the worker waits, and sends it again.
func TestP6RequestIsLost(t *testing.T) {
	for _, before := range []int{api.MaxMessages - 1, api.MaxMessages} {
		r := start(t, 3, 3, api.Ring, example())
		r.Steal(2, 1)
		fill(t, r, before)
		if e := r.Steal(1, 0); e != api.OK {
			t.Errorf("Steal(1, 0) beside %d messages: %d", before, e)
		}
		l, _ := r.Messages()
		came := len(l) > 0 && l[len(l)-1] == request(1, 0, 1)
		if len(l) != api.MaxMessages || came != (before < api.MaxMessages) {
			t.Errorf("a Request beside %d messages: %v", before, l)
		}
		if e := r.Steal(1, 2); e != api.ErrBusy {
			t.Errorf("Steal(1, 2) after a Request beside %d messages: %d", before, e)
		}
		empty(t, r)
		r.Tick(1)
		hasMessages(t, r, request(1, 0, 1))
	}
}

func TestP1FirstErrorOfSteal(t *testing.T) {
	r := start(t, 3, 3, api.Ring, example())
	r.Steal(1, 2)
	for _, c := range []struct {
		w, victim int
		want      api.Errno
	}{
		{0, 0, api.ErrWorker}, // has a task
		{0, 3, api.ErrWorker},
		{1, 1, api.ErrWorker}, // has asked
		{1, -1, api.ErrWorker},
		{0, 1, api.ErrBusy},
		{1, 0, api.ErrBusy},
		{2, 1, api.OK},
	} {
		if e := r.Steal(c.w, c.victim); e != c.want {
			t.Errorf("Steal(%d, %d) = %d, want %d", c.w, c.victim, e, c.want)
		}
	}
	hasMessages(t, r, request(1, 2, 1), request(2, 1, 1))
}
