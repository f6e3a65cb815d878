package glean

import (
	"fmt"
	"math"
	"slices"
	"testing"

	"glean/api"
	"glean/tasks"
)

func ExampleRun_Work() {
	p := api.Program{Kinds: []api.Kind{{A: 2, B: 1, Kids: []api.Kid{{Kind: 0, Less: 1}, {Kind: 0, Less: 2}}}}, Arg: 2}
	r, _ := New(api.Config{Workers: 2, Room: 3, Way: api.Ring}, p)
	fmt.Println(r.Work(0) == api.OK)
	fmt.Println(r.Tasks(0))
	fmt.Println(r.Work(1) == api.ErrIdle)
	// Output:
	// true
	// [{0 0 1} {1 0 0}] 0
	// true
}

// workAll lets worker 0 work until it is idle.
func workAll(t *testing.T, r *Run) {
	t.Helper()
	for range api.MaxTasks {
		if e := r.Work(0); e == api.ErrIdle {
			return
		} else if e != api.OK {
			t.Fatalf("Work(0): %d", e)
		}
	}
	if e := r.Work(0); e != api.ErrIdle {
		t.Fatalf("Work(0) after all tasks: %d", e)
	}
}

// hand gives a worker these tasks, and no others.
func hand(r *Run, w, room int, ts ...api.Task) {
	r.workers[w].tasks = tasks.New(room, ts...)
}

// threes has 1, 3, 9 and 27 tasks.
func threes() api.Program {
	return api.Program{Kinds: []api.Kind{{A: 3, B: -1, Kids: []api.Kid{{Less: 1}, {Less: 1}, {Less: 1}}}}, Arg: 3}
}

func TestP5Example(t *testing.T) {
	r := start(t, 2, 3, api.Ring, example())
	for i, want := range [][]string{{"0", "1"}, {"0"}, {"00"}, nil} {
		if e := r.Work(0); e != api.OK {
			t.Errorf("Work(0), time %d: %d", i, e)
		}
		hasTasks(t, r, 0, want...)
		hasTasks(t, r, 1)
	}
	if e := r.Work(0); e != api.ErrIdle {
		t.Errorf("Work(0) without a task: %d", e)
	}
	want := []api.Value{{ID: "", V: 5}, {ID: "0", V: 3}, {ID: "00", V: 1}, {ID: "1", V: 1}}
	if got := r.kept.List(); !slices.Equal(got, want) {
		t.Errorf("kept: %v, want %v", got, want)
	}
	if len(r.post) != 0 || r.workers[0].sent != 0 {
		t.Errorf("worker 0 sent %d: %v", r.workers[0].sent, r.post)
	}
}

// The second example from where worker 1 has "0": it has sent a Request on that link.
func TestP5ExampleOfAResult(t *testing.T) {
	r := start(t, 2, 3, api.Ring, example())
	hand(r, 1, 3, api.Task{ID: "0", Arg: 1})
	r.send(1, 0, api.Message{Kind: api.Request})
	r.post = nil
	if e := r.Work(1); e != api.OK {
		t.Errorf("Work(1): %d", e)
	}
	hasTasks(t, r, 1, "00")
	want := []api.Message{{From: 1, To: 0, No: 2, Kind: api.Result, V: api.Value{ID: "0", V: 3}}}
	if !slices.Equal(r.post, want) {
		t.Errorf("messages: %v, want %v", r.post, want)
	}
	if r.workers[1].sent != 1 || len(r.kept) != 0 {
		t.Errorf("worker 1 has sent %d, worker 0 kept %v", r.workers[1].sent, r.kept)
	}
}

// Each worker's Results have numbers of their own link.
func TestP5Results(t *testing.T) {
	r := start(t, 5, 20, api.Waves, threes())
	for w := 1; w < 5; w++ {
		hand(r, w, 20, api.Task{ID: fmt.Sprint("x", w), Arg: 1})
	}
	var want []api.Message
	for no := 1; no <= 4; no++ {
		for w := 4; w >= 1; w-- {
			v := api.Value{ID: fmt.Sprint("x", w), V: 2}
			if no > 1 {
				v = api.Value{ID: fmt.Sprintf("x%d%d", w, 4-no), V: -1}
			}
			if e := r.Work(w); e != api.OK {
				t.Errorf("Work(%d): %d", w, e)
			}
			want = append(want, api.Message{From: w, To: 0, No: no, Kind: api.Result, V: v})
			if got := r.workers[w].sent; got != no {
				t.Errorf("worker %d has sent %d, want %d", w, got, no)
			}
		}
	}
	if !slices.Equal(r.post, want) {
		t.Errorf("messages: %v, want %v", r.post, want)
	}
	hasTasks(t, r, 0, "")
	if r.workers[0].sent != 0 || len(r.kept) != 0 {
		t.Errorf("worker 0 has sent %d and kept %v", r.workers[0].sent, r.kept)
	}
}

// A Result that finds MaxMessages on their way is lost, but was sent.
func TestP5ResultIsLost(t *testing.T) {
	r := start(t, 2, 20, api.Ring, sized(4))
	for no := 1; no <= 2*api.MaxMessages; no++ {
		hand(r, 1, 20, api.Task{ID: "2", Kind: 1})
		if e := r.Work(1); e != api.OK || len(r.post) != min(no, api.MaxMessages) || r.workers[1].sent != no {
			t.Fatalf("Result %d: %d, %d on their way, %d sent", no, e, len(r.post), r.workers[1].sent)
		}
	}
	for i, m := range r.post {
		if m.No != i+1 {
			t.Errorf("message %d has the number %d", i, m.No)
		}
	}
	r.post = nil
	hand(r, 1, 20, api.Task{ID: "2", Kind: 1, Arg: 0})
	r.Work(1)
	want := []api.Message{{From: 1, No: 2*api.MaxMessages + 1, Kind: api.Result, V: api.Value{ID: "2"}}}
	if !slices.Equal(r.post, want) {
		t.Errorf("messages: %v, want %v", r.post, want)
	}
}

func TestP5Workers(t *testing.T) {
	for workers := 2; workers <= 5; workers++ {
		r := start(t, workers, 20, api.Ring, example())
		for _, w := range edges() {
			if w >= 0 && w < workers {
				continue
			}
			if e := r.Work(w); e != api.ErrWorker {
				t.Errorf("%d workers: Work(%d) = %d", workers, w, e)
			}
			if l, e := r.Tasks(w); len(l) != 0 || e != api.ErrWorker {
				t.Errorf("%d workers: Tasks(%d) = %v, %d", workers, w, l, e)
			}
		}
		for w := 1; w < workers; w++ {
			if e := r.Work(w); e != api.ErrIdle {
				t.Errorf("%d workers: Work(%d) = %d", workers, w, e)
			}
			hasTasks(t, r, w)
		}
		hasTasks(t, r, 0, "")
		if len(r.post) != 0 || len(r.kept) != 0 {
			t.Errorf("%d workers: refused calls left %v, %v", workers, r.post, r.kept)
		}
	}
}

// Three children beside two tasks take room 5, and three beside four take 7.
func TestP5Room(t *testing.T) {
	for _, c := range []struct {
		room, works int
		want        []string
	}{
		{1, 0, []string{""}},
		{2, 0, []string{""}},
		{3, 1, []string{"0", "1", "2"}},
		{4, 1, []string{"0", "1", "2"}},
		{5, 2, []string{"0", "1", "20", "21", "22"}},
		{6, 2, []string{"0", "1", "20", "21", "22"}},
	} {
		r := start(t, 2, c.room, api.Ring, threes())
		for range c.works {
			if e := r.Work(0); e != api.OK {
				t.Errorf("room %d: %d", c.room, e)
			}
		}
		kept := r.kept.List()
		for range 2 {
			if e := r.Work(0); e != api.ErrOverflow {
				t.Errorf("room %d: %d, want ErrOverflow", c.room, e)
			}
			hasTasks(t, r, 0, c.want...)
		}
		if !slices.Equal(r.kept.List(), kept) || len(kept) != c.works || len(r.post) != 0 {
			t.Errorf("room %d: kept %v, then %v; messages %v", c.room, kept, r.kept, r.post)
		}
	}
	r := start(t, 2, 7, api.Ring, threes())
	workAll(t, r)
	want, _ := Unfold(threes())
	if got := r.kept.List(); !slices.Equal(got, want) {
		t.Errorf("room 7: %v, want %v", got, want)
	}
}

// Room for one is enough where no task has more than one child, and a task without a child needs none.
func TestP5RoomForOne(t *testing.T) {
	line := api.Program{Kinds: []api.Kind{{A: 1, Kids: []api.Kid{{Less: 1}}}}, Arg: 12}
	r := start(t, 2, 1, api.Waves, line)
	workAll(t, r)
	if len(r.kept) != 13 {
		t.Errorf("a line: %v", r.kept)
	}
	r = start(t, 2, 1, api.Ring, example())
	if e := r.Work(0); e != api.ErrOverflow {
		t.Errorf("room 1: Work(0) = %d, want ErrOverflow", e)
	}
	hasTasks(t, r, 0, "")
}

func TestP5OverflowOfAnother(t *testing.T) {
	r := start(t, 3, 3, api.Ring, example())
	own := []api.Task{{ID: "a"}, {ID: "b"}, {ID: "c", Arg: 2}}
	hand(r, 2, 3, own...)
	if e := r.Work(2); e != api.ErrOverflow {
		t.Errorf("Work(2) = %d, want ErrOverflow", e)
	}
	if l, e := r.Tasks(2); !slices.Equal(l, own) || e != api.OK {
		t.Errorf("Tasks(2) = %v, %d", l, e)
	}
	if len(r.post) != 0 || r.workers[2].sent != 0 || len(r.kept) != 0 {
		t.Errorf("a worker without room sent %d: %v; kept %v", r.workers[2].sent, r.post, r.kept)
	}
	if e := r.Work(0); e != api.ErrOverflow {
		t.Errorf("Work(0) = %d, want ErrOverflow", e)
	}
	hasTasks(t, r, 0, "")
}

func TestP1OverflowIsFirst(t *testing.T) {
	r := start(t, 3, 1, api.Ring, example())
	other := start(t, 3, 20, api.Ring, example())
	r.Work(0)
	for _, w := range edges() {
		if e := r.Work(w); e != api.ErrOverflow {
			t.Errorf("Work(%d) = %d, want ErrOverflow", w, e)
		}
		want := api.OK
		if w < 0 || w > 2 {
			want = api.ErrWorker
		}
		if l, e := r.Tasks(w); e != want || (len(l) > 0) != (w == 0) {
			t.Errorf("Tasks(%d) = %v, %d, want %d", w, l, e, want)
		}
	}
	workAll(t, other)
}

func TestP1Nil(t *testing.T) {
	var r *Run
	for _, w := range edges() {
		if e := r.Work(w); e != api.ErrNil {
			t.Errorf("Work(%d) = %d, want ErrNil", w, e)
		}
		if l, e := r.Tasks(w); len(l) != 0 || e != api.ErrNil {
			t.Errorf("Tasks(%d) = %v, %d, want ErrNil", w, l, e)
		}
	}
}

func TestP2TasksAreNew(t *testing.T) {
	r := start(t, 2, 20, api.Ring, threes())
	r.Work(0)
	r.Work(0)
	first, _ := r.Tasks(0)
	second, _ := r.Tasks(0)
	want := slices.Clone(first)
	first = first[:cap(first)]
	for i := range first {
		first[i] = api.Task{ID: "other", Kind: math.MaxInt, Arg: math.MinInt}
	}
	if third, e := r.Tasks(0); !slices.Equal(second, want) || !slices.Equal(third, want) || e != api.OK {
		t.Errorf("changed with another answer: %v, %v", second, third)
	}
	old := slices.Clone(second[:cap(second)])
	workAll(t, r)
	if !slices.Equal(second[:cap(second)], old) {
		t.Errorf("an answer changed with the run: %v", second)
	}
	if got, _ := Unfold(threes()); !slices.Equal(got, r.kept.List()) {
		t.Errorf("the run changed with an answer: %v", r.kept)
	}
}

func TestP2RunsAreApart(t *testing.T) {
	p := threes()
	a, b := start(t, 3, 20, api.Ring, p), start(t, 3, 20, api.Ring, p)
	hand(a, 1, 20, api.Task{ID: "0", Arg: 2})
	for range 3 {
		a.Work(0)
		a.Work(1)
	}
	hasTasks(t, b, 0, "")
	hasTasks(t, b, 1)
	if len(b.post) != 0 || len(b.kept) != 0 || b.workers[1].sent != 0 {
		t.Errorf("a run changed with another one: %v, %v", b.post, b.kept)
	}
	hand(b, 1, 20, api.Task{ID: "0", Arg: 2})
	b.Work(1)
	if len(b.post) != 1 || b.post[0].No != 1 || len(a.post) != 3 {
		t.Errorf("runs share a link: %v, %v", a.post, b.post)
	}
}

// Here each worker has some task at first, as if it had been granted one.
func TestP5ManyRuns(t *testing.T) {
	number := numbers()
	seen := map[api.Errno]int{}
	for range 1500 {
		p := anyProgram(number, 0)
		c := api.Config{Workers: 2 + number(4), Room: 1 + number(api.MaxRoom), Way: 1 + number(2)}
		s := newShadow(p, c)
		r, e := New(c, p)
		if e != api.OK {
			continue
		}
		for w := 1; w < len(s.tasks); w++ {
			task := api.Task{ID: fmt.Sprint(w), Kind: number(len(p.Kinds)), Arg: number(api.MaxArg + 1)}
			s.tasks[w] = []api.Task{task}
			hand(r, w, s.room, task)
		}
		for range 60 {
			w := number(len(s.tasks)+2) - 1
			want := s.work(w)
			seen[want]++
			if got := r.Work(w); got != want || !s.same(r) {
				t.Fatalf("%v, %v: Work(%d) = %d, want %d, and %v", c, p, w, got, want, s)
			}
		}
	}
	for _, e := range []api.Errno{api.OK, api.ErrOverflow, api.ErrWorker, api.ErrIdle} {
		if seen[e] < 1000 {
			t.Errorf("too few of a sort: %v", seen)
		}
	}
}
