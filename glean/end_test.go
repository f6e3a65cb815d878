package glean

import (
	"slices"
	"testing"

	"glean/api"
)

// doneOnce holds P12 of what a shadow saw: each task was done once at most, and is one of the program's; so it is of values, whether worker 0 found them or Results brought them.
func doneOnce(t *testing.T, s *shadow, c api.Config) {
	t.Helper()
	all, _ := Unfold(s.p)
	value := map[string]int{}
	for _, v := range all {
		value[v.ID] = v.V
	}
	times := map[string]int{}
	for _, id := range s.done {
		if _, ok := value[id]; !ok || times[id] > 0 {
			t.Fatalf("%v, %v: %q was done, and others: %v", c, s.p, id, s.done)
		}
		times[id]++
	}
	for id, v := range s.kept {
		if want, ok := value[id]; !ok || v != want || times[id] != 1 {
			t.Fatalf("%v, %v: %q is kept with %d", c, s.p, id, v)
		}
	}
}

// isEnd holds P13 of a run and its shadow: no task is left, each Grant and each Result has come, and what is announced is what Unfold answers.
func isEnd(t *testing.T, r *Run, s *shadow, c api.Config) {
	t.Helper()
	for w := range r.workers {
		hasTasks(t, r, w)
	}
	for _, kind := range []int{api.Grant, api.Result} {
		if sent, came := len(of(s.sent, kind)), len(of(s.came, kind)); sent != came {
			t.Errorf("%d of kind %d were sent, %d came", sent, kind, came)
		}
	}
	messages, _ := r.Messages()
	for _, m := range messages {
		if (m.Kind == api.Grant || m.Kind == api.Result) && !slices.Contains(s.came, m) {
			t.Errorf("on its way: %v", m)
		}
	}
	for w := range r.workers {
		for m := range r.workers[w].again() {
			if (m.Kind == api.Grant || m.Kind == api.Result) && !slices.Contains(s.came, m) {
				t.Errorf("not come: %v", m)
			}
		}
	}
	hasAnnounced(t, r, s.p, true)
	if t.Failed() {
		t.Fatalf("%v, %v", c, s.p)
	}
}

// small is a program of few tasks, so that runs of it end soon.
func small(number func(below int) int) api.Program {
	p := api.Program{Arg: number(5)}
	for range 1 + number(2) {
		k := api.Kind{A: number(9) - 4, B: number(9) - 4}
		for range number(api.MaxKids + 1) {
			k.Kids = append(k.Kids, api.Kid{Less: 1 + number(3)})
		}
		p.Kinds = append(p.Kinds, k)
	}
	for i := range p.Kinds {
		for j := range p.Kinds[i].Kids {
			p.Kinds[i].Kids[j].Kind = number(len(p.Kinds))
		}
	}
	return p
}

// share makes one call at a run that lets no worker work.
func share(r *Run, number func(below int) int) {
	w, i := number(len(r.workers)), number(len(r.post)+1)
	switch number(12) {
	case 0, 1:
		r.Steal(w, number(len(r.workers)))
	case 2:
		r.Drop(i)
	case 3:
		r.Twice(i)
	case 4:
		r.Tick(w)
	case 5:
		r.Pass(w)
	case 6:
		r.Check()
	default:
		r.Deliver(i)
	}
}

// Whatever is called: the tasks that workers are seen to do differ, and are the program's.
func TestP12EachTaskOnce(t *testing.T) {
	number := numbers()
	all := 0
	for range 300 {
		p := anyProgram(number, 0)
		c := api.Config{Workers: 2 + number(4), Room: api.MaxRoom, Way: 1 + number(2)}
		r, e := New(c, p)
		if e != api.OK {
			continue
		}
		want, _ := Unfold(p)
		var done []api.Value
		work := func(w int) {
			own, _ := r.Tasks(w)
			if r.Work(w) == api.OK {
				task := own[len(own)-1]
				k := p.Kinds[task.Kind]
				done = append(done, api.Value{ID: task.ID, V: k.A*task.Arg + k.B})
			}
		}
		for range 600 {
			if number(4) == 0 {
				work(number(c.Workers))
			} else {
				share(r, number)
			}
		}
		for i, v := range done {
			if !slices.Contains(want, v) || slices.Contains(done[:i], v) {
				t.Fatalf("%v, %v: %v was done, and ahead of it %v", c, p, v, done[:i])
			}
		}
		kept := r.kept.List()
		for i, v := range kept {
			if !slices.Contains(want, v) || i > 0 && kept[i-1].ID >= v.ID {
				t.Fatalf("%v, %v: kept %v", c, p, kept)
			}
		}
		all += len(done)
	}
	if all < 1000 {
		t.Errorf("too few tasks: %d", all)
	}
}

// Whatever is called, in whatever order, until all is announced: with messages lost, doubled and overtaken all along.
func TestP13ManyRuns(t *testing.T) {
	number := numbers()
	seen := map[int]int{}
	stolen := 0
	for range 700 {
		p := small(number)
		c := api.Config{Workers: 2 + number(4), Room: 3 + number(api.MaxRoom-2), Way: 1 + number(2)}
		s := newShadow(p, c)
		r, e := New(c, p)
		if e != api.OK {
			continue
		}
		often := 4 + number(12)
		for range 1500 {
			if s.over || s.end {
				break
			}
			if call, got, want := play(r, s, number, often); got != want {
				t.Fatalf("%v, %v: %s = %d, want %d", c, p, call, got, want)
			}
		}
		if !s.same(r) {
			t.Fatalf("%v, %v: not as %v", c, p, s)
		}
		doneOnce(t, s, c)
		if s.end {
			isEnd(t, r, s, c)
			seen[c.Way]++
			stolen += len(of(s.came, api.Grant))
		}
	}
	if seen[api.Ring] < 100 || seen[api.Waves] < 100 || stolen < 200 {
		t.Errorf("too few ends: %v, with %d Grants", seen, stolen)
	}
}

// turnBoth is a turn of a run and of its shadow.
func turnBoth(t *testing.T, r *Run, s *shadow) {
	t.Helper()
	for w := range s.tasks {
		answers(t, "Work", r.Work(w), s.work(w))
		answers(t, "Pass", r.Pass(w), s.pass(w))
		answers(t, "Tick", r.Tick(w), s.tick(w))
	}
	answers(t, "Check", r.Check(), s.check())
	for range 1000 {
		e := s.deliver(0)
		answers(t, "Deliver", r.Deliver(0), e)
		if e != api.OK {
			return
		}
	}
	t.Fatal("messages without an end")
}

// Whatever happened until now: when all take turns, all is announced, unless there was too little room.
func TestP14ManyRuns(t *testing.T) {
	number := numbers()
	seen := map[int]int{}
	for range 250 {
		p := anyProgram(number, 0)
		c := api.Config{Workers: 2 + number(4), Room: 3 + number(api.MaxRoom-2), Way: 1 + number(2)}
		s := newShadow(p, c)
		r, e := New(c, p)
		if e != api.OK {
			continue
		}
		often := number(12)
		for range number(400) {
			play(r, s, number, often)
		}
		for range 3 * api.MaxTasks {
			if s.end || s.over {
				break
			}
			turnBoth(t, r, s)
		}
		doneOnce(t, s, c)
		if s.over {
			continue
		}
		isEnd(t, r, s, c)
		seen[c.Way]++
	}
	if seen[api.Ring] < 50 || seen[api.Waves] < 50 {
		t.Errorf("too few ends: %v", seen)
	}
}

// From the first state on, with all numbers of workers, the least room that is enough, and the greatest program.
func TestP14FromTheStart(t *testing.T) {
	for workers := 2; workers <= api.MaxWorkers; workers++ {
		for _, way := range []int{api.Ring, api.Waves} {
			for _, p := range []api.Program{single(), example(), threes(), sized(4)} {
				r := start(t, workers, leastRoom(t, p), way, p)
				finish(t, r)
				hasAnnounced(t, r, p, true)
			}
		}
	}
}

// leastRoom is the room with which worker 0 can do all alone.
func leastRoom(t *testing.T, p api.Program) int {
	t.Helper()
	for room := 1; room <= api.MaxRoom; room++ {
		r := start(t, 2, room, api.Ring, p)
		for r.Work(0) == api.OK {
		}
		if !r.overflow {
			return room
		}
	}
	t.Fatalf("no room is enough for %v", p)
	return 0
}

// A list that is full, things that are far ahead of what has come, and all of it lost: turns make up for it.
func TestP14AfterTheWorst(t *testing.T) {
	for _, way := range []int{api.Ring, api.Waves} {
		p := threes()
		r := start(t, 5, 20, way, p)
		for w := 1; w < 5; w++ {
			r.Work(0)
			r.Steal(w, 0)
		}
		for range 4 {
			deliver(t, r, 0)
		}
		for range 4 {
			deliver(t, r, slices.IndexFunc(r.post, func(m api.Message) bool { return m.Kind == api.Grant }))
		}
		for r.Work(0) == api.OK {
		}
		r.Check()
		fill(t, r, api.MaxMessages)
		for w := 1; w < 5; w++ {
			for r.Work(w) == api.OK {
			}
			r.Tick(w)
		}
		empty(t, r)
		for w := 1; w < 5; w++ {
			r.Steal(w, w%4+1)
		}
		fill(t, r, api.MaxMessages)
		finish(t, r)
		hasAnnounced(t, r, p, true)
	}
}
