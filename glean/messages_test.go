package glean

import (
	"fmt"
	"math"
	"slices"
	"testing"

	"glean/api"
)

func ExampleRun_Tick() {
	p := api.Program{Kinds: []api.Kind{{A: 2, B: 1}}}
	r, _ := New(api.Config{Workers: 2, Room: 1, Way: api.Ring}, p)
	r.Steal(1, 0)
	fmt.Println(r.Drop(0) == api.OK)
	messages, _ := r.Messages()
	fmt.Println(len(messages))
	fmt.Println(r.Tick(1) == api.OK, r.Twice(0) == api.OK)
	messages, _ = r.Messages()
	fmt.Println(len(messages), messages[0] == messages[1])
	// Output:
	// true
	// 0
	// true true
	// 2 true
}

// hasMessages holds the messages on their way against those that should be.
func hasMessages(t *testing.T, r *Run, want ...api.Message) {
	t.Helper()
	if l, e := r.Messages(); !slices.Equal(l, want) || e != api.OK {
		t.Errorf("Messages = %v, %d, want %v", l, e, want)
	}
}

// fill doubles the last message until there are so many.
func fill(t *testing.T, r *Run, most int) {
	t.Helper()
	for n := len(r.post); n < most; n++ {
		if e := r.Twice(n - 1); e != api.OK || len(r.post) != n+1 {
			t.Fatalf("Twice(%d): %d, then %d messages", n-1, e, len(r.post))
		}
	}
}

// empty drops all messages.
func empty(t *testing.T, r *Run) {
	t.Helper()
	for n := len(r.post); n > 0; n-- {
		if e := r.Drop(n - 1); e != api.OK || len(r.post) != n-1 {
			t.Fatalf("Drop(%d): %d, then %d messages", n-1, e, len(r.post))
		}
	}
	hasMessages(t, r)
}

// five is a run with four messages that differ: worker w's Request to worker w - 1.
func five(t *testing.T) *Run {
	t.Helper()
	r := start(t, 5, 3, api.Ring, example())
	for w := 1; w < 5; w++ {
		if e := r.Steal(w, w-1); e != api.OK {
			t.Fatalf("Steal(%d, %d): %d", w, w-1, e)
		}
	}
	hasMessages(t, r, request(1, 0, 1), request(2, 1, 1), request(3, 2, 1), request(4, 3, 1))
	return r
}

func TestP7Order(t *testing.T) {
	r := start(t, 4, 3, api.Waves, example())
	hasMessages(t, r)
	hand(r, 2, 3, api.Task{ID: "00"})
	result := api.Message{From: 2, No: 1, Kind: api.Result, V: api.Value{ID: "00", V: 1}}
	r.Steal(3, 0)
	r.Work(2)
	r.Steal(1, 3)
	r.Steal(2, 0)
	hasMessages(t, r, request(3, 0, 1), result, request(1, 3, 1), request(2, 0, 2))
	hasMessages(t, r, request(3, 0, 1), result, request(1, 3, 1), request(2, 0, 2))
	r.Tick(1)
	r.Twice(1)
	hasMessages(t, r, request(3, 0, 1), result, request(1, 3, 1), request(2, 0, 2), request(1, 3, 1), result)
}

func TestP7Drop(t *testing.T) {
	all := []api.Message{request(1, 0, 1), request(2, 1, 1), request(3, 2, 1), request(4, 3, 1)}
	for i := range all {
		r := five(t)
		if e := r.Drop(i); e != api.OK {
			t.Errorf("Drop(%d): %d", i, e)
		}
		hasMessages(t, r, slices.Concat(all[:i], all[i+1:])...)
		if e := r.Drop(3); e != api.ErrMessage {
			t.Errorf("Drop(3) of three: %d", e)
		}
		r.Tick(i + 1)
		hasMessages(t, r, slices.Concat(all[:i], all[i+1:], all[i:i+1])...)
		empty(t, r)
		if e := r.Drop(0); e != api.ErrMessage {
			t.Errorf("Drop(0) of none: %d", e)
		}
	}
}

func TestP7Twice(t *testing.T) {
	all := []api.Message{request(1, 0, 1), request(2, 1, 1), request(3, 2, 1), request(4, 3, 1)}
	for i := range all {
		r := five(t)
		for range 2 {
			if e := r.Twice(i); e != api.OK {
				t.Errorf("Twice(%d): %d", i, e)
			}
		}
		hasMessages(t, r, slices.Concat(all, all[i:i+1], all[i:i+1])...)
		r.Drop(i)
		hasMessages(t, r, slices.Concat(all[:i], all[i+1:], all[i:i+1], all[i:i+1])...)
	}
}

// A double is like its message in all: here each number in it differs.
func TestP7TwiceOfAll(t *testing.T) {
	r := five(t)
	odd := api.Message{From: 4, To: 3, No: 9, Kind: 7, T: api.Task{ID: "01", Kind: 2, Arg: 5}, V: api.Value{ID: "2", V: -8}, Black: true, Idle: true, Count: -6, Round: 10, Sent: 11, Came: 12}
	r.post[2] = odd
	r.Twice(2)
	hasMessages(t, r, request(1, 0, 1), request(2, 1, 1), odd, request(4, 3, 1), odd)
}

func TestP7NoSuchMessage(t *testing.T) {
	for _, most := range []int{0, 1, 2, 4, api.MaxMessages - 1, api.MaxMessages} {
		r := five(t)
		for len(r.post) > most {
			r.Drop(0)
		}
		if most > 0 {
			fill(t, r, most)
		}
		before, _ := r.Messages()
		for _, i := range append(edges(), most, most+1, -most, api.MaxMessages, api.MaxMessages+1) {
			if i >= 0 && i < most {
				continue
			}
			if e := r.Drop(i); e != api.ErrMessage {
				t.Errorf("of %d: Drop(%d) = %d", most, i, e)
			}
			if e := r.Twice(i); e != api.ErrMessage {
				t.Errorf("of %d: Twice(%d) = %d", most, i, e)
			}
		}
		hasMessages(t, r, before...)
	}
}

// One less than full has room for one; in a full list a double is lost, and the call is none the worse for it.
func TestP7FullOfTwice(t *testing.T) {
	r := five(t)
	fill(t, r, api.MaxMessages-1)
	before, _ := r.Messages()
	full := append(before, request(2, 1, 1))
	for i, want := range []int{1, 0, api.MaxMessages - 1, api.MaxMessages - 2, 3} {
		if e := r.Twice(want); e != api.OK {
			t.Errorf("Twice(%d), time %d: %d", want, i, e)
		}
		hasMessages(t, r, full...)
	}
	r.Drop(0)
	r.Twice(1)
	hasMessages(t, r, append(slices.Clone(full[1:]), request(3, 2, 1))...)
}

func TestP7FullOfTick(t *testing.T) {
	for _, before := range []int{api.MaxMessages - 3, api.MaxMessages - 2, api.MaxMessages - 1, api.MaxMessages} {
		r := start(t, 4, 3, api.Ring, example())
		hand(r, 3, 3, api.Task{ID: "00"})
		r.Work(3)
		r.Steal(3, 1)
		fill(t, r, before)
		old, _ := r.Messages()
		if e := r.Tick(3); e != api.OK {
			t.Errorf("Tick(3) beside %d: %d", before, e)
		}
		result := api.Message{From: 3, No: 1, Kind: api.Result, V: api.Value{ID: "00", V: 1}}
		want := append(old, result, request(3, 1, 1))
		hasMessages(t, r, want[:min(len(want), api.MaxMessages)]...)
		empty(t, r)
		r.Tick(3)
		hasMessages(t, r, result, request(3, 1, 1))
	}
}

// A Result that found the list full is not on its way, but is sent again.
func TestP7LostResultIsKept(t *testing.T) {
	r := start(t, 3, 3, api.Ring, example())
	r.Steal(2, 0)
	fill(t, r, api.MaxMessages)
	hand(r, 1, 3, api.Task{ID: "1"}, api.Task{ID: "00"})
	for range 2 {
		if e := r.Work(1); e != api.OK {
			t.Errorf("Work(1): %d", e)
		}
	}
	hasMessages(t, r, slices.Repeat([]api.Message{request(2, 0, 1)}, api.MaxMessages)...)
	empty(t, r)
	r.Steal(1, 0)
	r.Tick(1)
	hasMessages(t, r, request(1, 0, 3), api.Message{From: 1, No: 1, Kind: api.Result, V: api.Value{ID: "00", V: 1}})
	if r.workers[1].sent != 2 {
		t.Errorf("worker 1 has sent %d work messages, want 2", r.workers[1].sent)
	}
}

// By rising numbers of the other ends, not in the order of sending; of each link one only, its oldest.
func TestP7TickLinks(t *testing.T) {
	for w := range 5 {
		r := start(t, 5, 3, api.Ring, example())
		var want []api.Message
		for other := 4; other >= 0; other-- {
			if other == w || other == 1 {
				continue
			}
			r.send(w, other, api.Message{Kind: api.Wave, Round: 10 + other}, api.Message{Kind: api.Wave, Round: 20 + other})
			want = append([]api.Message{{From: w, To: other, No: 1, Kind: api.Wave, Round: 10 + other}}, want...)
		}
		empty(t, r)
		for times := 1; times <= 3; times++ {
			for other := range 5 {
				if other != w {
					r.Tick(other)
				}
			}
			if e := r.Tick(w); e != api.OK {
				t.Errorf("Tick(%d): %d", w, e)
			}
			hasMessages(t, r, slices.Repeat(want, times)...)
		}
	}
}

func TestP7AgainBrokenOff(t *testing.T) {
	r := start(t, 5, 3, api.Ring, example())
	for other := 1; other < 5; other++ {
		r.send(0, other, api.Message{Kind: api.Wave, Round: 1})
	}
	for stop := 1; stop <= 4; stop++ {
		var to []int
		for m := range r.workers[0].again() {
			to = append(to, m.To)
			if len(to) == stop {
				break
			}
		}
		if !slices.Equal(to, []int{1, 2, 3, 4}[:stop]) {
			t.Errorf("broken off after %d: to %v", stop, to)
		}
	}
}

// What is sent again has its old number, and what is sent then has the next one.
func TestP7TickKeepsNumbers(t *testing.T) {
	r := start(t, 3, 3, api.Ring, example())
	hand(r, 1, 3, api.Task{ID: "1"}, api.Task{ID: "00"})
	first := api.Message{From: 1, No: 1, Kind: api.Result, V: api.Value{ID: "00", V: 1}}
	second := api.Message{From: 1, No: 2, Kind: api.Result, V: api.Value{ID: "1", V: 1}}
	r.Work(1)
	r.Tick(1)
	r.Work(1)
	r.Tick(1)
	r.Steal(1, 0)
	r.Tick(1)
	hasMessages(t, r, first, first, second, first, request(1, 0, 3), first)
	if r.workers[1].sent != 2 {
		t.Errorf("worker 1 has sent %d work messages, want 2", r.workers[1].sent)
	}
}

func TestP7TickWorkers(t *testing.T) {
	for workers := 2; workers <= api.MaxWorkers; workers++ {
		r := start(t, workers, 3, api.Waves, example())
		r.Steal(workers-1, 0)
		want := []api.Message{request(workers-1, 0, 1)}
		for _, w := range edges() {
			if w >= 0 && w < workers {
				continue
			}
			if e := r.Tick(w); e != api.ErrWorker {
				t.Errorf("%d workers: Tick(%d) = %d", workers, w, e)
			}
		}
		for w := range workers - 1 {
			if e := r.Tick(w); e != api.OK {
				t.Errorf("%d workers: Tick(%d) = %d", workers, w, e)
			}
		}
		hasMessages(t, r, want...)
		if e := r.Tick(workers - 1); e != api.OK {
			t.Errorf("%d workers: Tick(%d) = %d", workers, workers-1, e)
		}
		hasMessages(t, r, want[0], want[0])
	}
}

// Losing and doubling leaves all else as it is.
func TestP7OnlyMessages(t *testing.T) {
	r := start(t, 2, 3, api.Ring, example())
	r.Work(0)
	hand(r, 1, 3, api.Task{ID: "00"})
	r.Work(1)
	kept := r.kept.List()
	for range 100 {
		r.Twice(0)
		r.Tick(1)
		r.Tick(0)
		r.Drop(1)
	}
	hasTasks(t, r, 0, "0", "1")
	hasTasks(t, r, 1)
	if !slices.Equal(r.kept.List(), kept) || r.workers[1].sent != 1 || r.workers[0].sent != 0 {
		t.Errorf("kept %v, sent %d and %d", r.kept, r.workers[0].sent, r.workers[1].sent)
	}
}

func TestP1OverflowOfMessages(t *testing.T) {
	r := start(t, 3, 1, api.Ring, example())
	r.Steal(1, 0)
	if e := r.Work(0); e != api.ErrOverflow {
		t.Fatalf("Work(0) = %d, want ErrOverflow", e)
	}
	for _, n := range edges() {
		for name, e := range map[string]api.Errno{
			"Steal from n": r.Steal(n, 0), "Steal from 2": r.Steal(2, n), "Drop": r.Drop(n), "Twice": r.Twice(n), "Tick": r.Tick(n),
		} {
			if e != api.ErrOverflow {
				t.Errorf("%s, %d: %d, want ErrOverflow", name, n, e)
			}
		}
	}
	hasMessages(t, r, request(1, 0, 1))
	hasTasks(t, r, 0, "")
}

func TestP1NilOfMessages(t *testing.T) {
	var r *Run
	for _, n := range edges() {
		for name, e := range map[string]api.Errno{
			"Steal from n": r.Steal(n, 0), "Steal from 1": r.Steal(1, n), "Steal from itself": r.Steal(n, n), "Drop": r.Drop(n), "Twice": r.Twice(n), "Tick": r.Tick(n),
		} {
			if e != api.ErrNil {
				t.Errorf("%s, %d: %d, want ErrNil", name, n, e)
			}
		}
	}
	if l, e := r.Messages(); len(l) != 0 || e != api.ErrNil {
		t.Errorf("Messages = %v, %d, want ErrNil", l, e)
	}
}

// At any number of messages, so that it doesn't hang on how much spare room there is.
func TestP2MessagesAreNew(t *testing.T) {
	for most := 4; most <= api.MaxMessages; most++ {
		r := five(t)
		fill(t, r, most)
		first, _ := r.Messages()
		second, _ := r.Messages()
		want := slices.Clone(first)
		first = first[:cap(first)]
		for i := range first {
			first[i] = api.Message{From: math.MaxInt, No: math.MinInt, Kind: 99}
		}
		hasMessages(t, r, want...)
		if !slices.Equal(second, want) {
			t.Errorf("an answer changed with another one: %v", second)
		}
		old := slices.Clone(second[:cap(second)])
		r.Twice(0)
		r.Drop(0)
		r.Tick(3)
		empty(t, r)
		r.Tick(2)
		hasMessages(t, r, request(2, 1, 1))
		if !slices.Equal(second[:cap(second)], old) {
			t.Errorf("an answer changed with the run: %v", second)
		}
		for _, m := range first {
			if m.Kind != 99 {
				t.Errorf("an answer changed with the run: %v", first)
			}
		}
	}
}

func TestP2MessagesAreApart(t *testing.T) {
	p := example()
	a, b := start(t, 3, 3, api.Ring, p), start(t, 3, 3, api.Ring, p)
	a.Steal(1, 0)
	a.Steal(2, 0)
	fill(t, a, api.MaxMessages)
	hasMessages(t, b)
	for w := range 3 {
		b.Tick(w)
	}
	hasMessages(t, b)
	if e := b.Steal(1, 0); e != api.OK {
		t.Errorf("Steal(1, 0) of the other run: %d", e)
	}
	hasMessages(t, b, request(1, 0, 1))
	empty(t, a)
	hasMessages(t, b, request(1, 0, 1))
	start(t, 2, 1, api.Ring, p).Work(0)
	if e := b.Tick(1); e != api.OK {
		t.Errorf("Tick(1) after another run's overflow: %d", e)
	}
	hasMessages(t, b, request(1, 0, 1), request(1, 0, 1))
}

// play makes one call at a run and at its shadow, and tells both answers. The greater often is, the more often a message is delivered.
func play(r *Run, s *shadow, number func(below int) int, often int) (call string, got, want api.Errno) {
	w := number(len(s.tasks)+2) - 1
	other := number(len(s.tasks)+2) - 1
	i := number(len(s.way)+2) - 1
	switch number(8 + often) {
	case 0:
		return fmt.Sprintf("Work(%d)", w), r.Work(w), s.work(w)
	case 1:
		return fmt.Sprintf("Steal(%d, %d)", w, other), r.Steal(w, other), s.steal(w, other)
	case 2:
		return fmt.Sprintf("Drop(%d)", i), r.Drop(i), s.drop(i)
	case 3:
		return fmt.Sprintf("Twice(%d)", i), r.Twice(i), s.twice(i)
	case 4, 5:
		return fmt.Sprintf("Tick(%d)", w), r.Tick(w), s.tick(w)
	case 6:
		return fmt.Sprintf("Pass(%d)", w), r.Pass(w), s.pass(w)
	case 7:
		return "Check()", r.Check(), s.check()
	}
	return fmt.Sprintf("Deliver(%d)", i), r.Deliver(i), s.deliver(i)
}

// Here some workers have a task at first, as if they had been granted one.
func TestP7ManyRuns(t *testing.T) {
	number := numbers()
	seen := map[api.Errno]int{}
	full := 0
	for range 500 {
		p := anyProgram(number, 0)
		c := api.Config{Workers: 2 + number(4), Room: 3 + number(api.MaxRoom-2), Way: 1 + number(2)}
		s := newShadow(p, c)
		r, e := New(c, p)
		if e != api.OK {
			continue
		}
		for w := 1; w < len(s.tasks); w++ {
			if number(2) == 0 {
				task := api.Task{ID: fmt.Sprint(w), Kind: number(len(p.Kinds)), Arg: number(api.MaxArg + 1)}
				s.tasks[w] = []api.Task{task}
				hand(r, w, s.room, task)
			}
		}
		for range 300 {
			call, got, want := play(r, s, number, 0)
			seen[want]++
			if got != want || !s.same(r) {
				t.Fatalf("%v, %v: %s = %d, want %d, and %v", c, p, call, got, want, s)
			}
			if len(s.way) == api.MaxMessages {
				full++
			}
		}
	}
	for _, e := range []api.Errno{api.OK, api.ErrOverflow, api.ErrWorker, api.ErrIdle, api.ErrBusy, api.ErrMessage} {
		if seen[e] < 300 {
			t.Errorf("too few of a sort: %v", seen)
		}
	}
	if full < 300 {
		t.Errorf("the list was full %d times only", full)
	}
}
