package glean

import (
	"fmt"
	"slices"
	"testing"

	"glean/api"
)

// hasAnnounced holds what is announced against what Unfold answers, or against nothing.
func hasAnnounced(t *testing.T, r *Run, p api.Program, want bool) {
	t.Helper()
	var all []api.Value
	if want {
		all, _ = Unfold(p)
	}
	if l, yes, e := r.Announced(); yes != want || !slices.Equal(l, all) || e != api.OK {
		t.Errorf("Announced() = %v, %t, %d, want %v, %t", l, yes, e, all, want)
	}
}

// turn lets each worker work, pass the token on and tick, and worker 0 check; then all messages are delivered.
func turn(t *testing.T, r *Run) {
	t.Helper()
	for w := range r.workers {
		r.Work(w)
		r.Pass(w)
		r.Tick(w)
	}
	r.Check()
	for range 1000 {
		if r.Deliver(0) != api.OK {
			return
		}
	}
	t.Fatal("messages without an end")
}

// finish takes turns until all is announced.
func finish(t *testing.T, r *Run) {
	t.Helper()
	for range 3 * api.MaxTasks {
		if r.announced {
			return
		}
		turn(t, r)
	}
	t.Fatalf("all is not announced in the end: %v", r)
}

func TestP11Example(t *testing.T) {
	for _, way := range []int{api.Ring, api.Waves} {
		r := start(t, 2, 3, way, example())
		hasAnnounced(t, r, example(), false)
		workAll(t, r)
		hasAnnounced(t, r, example(), false)
		finish(t, r)
		want := []api.Value{{ID: "", V: 5}, {ID: "0", V: 3}, {ID: "00", V: 1}, {ID: "1", V: 1}}
		for range 2 {
			if l, yes, e := r.Announced(); !slices.Equal(l, want) || !yes || e != api.OK {
				t.Errorf("Announced() = %v, %t, %d", l, yes, e)
			}
		}
	}
}

// calls makes all calls that change something, with some number.
func calls(r *Run, n int) map[string]api.Errno {
	return map[string]api.Errno{
		"Work": r.Work(n), "Steal": r.Steal(n, 0), "Steal from": r.Steal(1, n), "Steal from itself": r.Steal(n, n), "Deliver": r.Deliver(n),
		"Drop": r.Drop(n), "Twice": r.Twice(n), "Tick": r.Tick(n), "Pass": r.Pass(n), "Check": r.Check(),
	}
}

// When all is announced, nothing changes any more, whatever is asked for; what is there may be told.
func TestP1Done(t *testing.T) {
	for _, way := range []int{api.Ring, api.Waves} {
		r := start(t, 3, 3, way, example())
		r.Work(0)
		for range 100 {
			r.Steal(2, 0)
			turn(t, r)
		}
		before, _ := r.Messages()
		if !r.announced || len(before) < 2 {
			t.Fatalf("announced %t, messages: %v", r.announced, before)
		}
		for _, n := range append(edges(), 20, api.MaxMessages) {
			for name, e := range calls(r, n) {
				answers(t, fmt.Sprintf("%s, %d", name, n), e, api.ErrDone)
			}
			want := api.OK
			if n < 0 || n > 2 {
				want = api.ErrWorker
			}
			l, e := r.Tasks(n)
			answers(t, fmt.Sprintf("Tasks(%d)", n), e, want)
			if len(l) != 0 {
				t.Errorf("Tasks(%d) = %v", n, l)
			}
		}
		hasMessages(t, r, before...)
		hasAnnounced(t, r, example(), true)
	}
}

// A worker had no room: nothing is announced ever.
func TestP1OverflowOfFindingOut(t *testing.T) {
	for _, way := range []int{api.Ring, api.Waves} {
		r := start(t, 3, 1, way, example())
		r.Steal(1, 0)
		deliverAll(t, r)
		r.Check()
		before, _ := r.Messages()
		answers(t, "Work(1)", r.Work(1), api.ErrOverflow)
		for _, n := range append(edges(), 20, api.MaxMessages) {
			for name, e := range calls(r, n) {
				answers(t, fmt.Sprintf("%s, %d", name, n), e, api.ErrOverflow)
			}
		}
		hasMessages(t, r, before...)
		hasAnnounced(t, r, example(), false)
	}
}

func TestP1NilOfFindingOut(t *testing.T) {
	var r *Run
	for _, n := range edges() {
		for name, e := range calls(r, n) {
			answers(t, fmt.Sprintf("%s, %d", name, n), e, api.ErrNil)
		}
	}
	if l, yes, e := r.Announced(); len(l) != 0 || yes || e != api.ErrNil {
		t.Errorf("Announced() = %v, %t, %d, want ErrNil", l, yes, e)
	}
}

func TestP2AnnouncedIsNew(t *testing.T) {
	for _, p := range []api.Program{single(), example(), threes(), sized(4)} {
		r := start(t, 2, 20, api.Waves, p)
		finish(t, r)
		first, _, _ := r.Announced()
		second, _, _ := r.Announced()
		first = first[:cap(first)]
		for i := range first {
			first[i] = api.Value{ID: "other", V: 77}
		}
		hasAnnounced(t, r, p, true)
		if want, _ := Unfold(p); !slices.Equal(second, want) {
			t.Errorf("an answer changed with another one: %v", second)
		}
		old := slices.Clone(second[:cap(second)])
		r.Check()
		r.Announced()
		if !slices.Equal(second[:cap(second)], old) {
			t.Errorf("an answer changed with the run: %v", second)
		}
	}
}

// What one run announces, another one does not; nor do they share the token or a round.
func TestP2AnnouncedIsApart(t *testing.T) {
	for _, way := range []int{api.Ring, api.Waves} {
		a, b, c := start(t, 3, 3, way, example()), start(t, 3, 3, way, example()), start(t, 3, 3, way, example())
		workAll(t, b)
		finish(t, a)
		hasAnnounced(t, b, example(), false)
		answers(t, "Check() of another run", b.Check(), api.OK)
		if len(b.post) == 0 || b.post[0].No != 1 || b.post[0].Round > 1 {
			t.Errorf("another run: %v", b.post)
		}
		hasAnnounced(t, c, example(), false)
		hasTasks(t, c, 0, "")
		finish(t, b)
		finish(t, c)
	}
}
