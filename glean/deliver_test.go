package glean

import (
	"fmt"
	"slices"
	"testing"

	"glean/api"
)

func ExampleRun_Deliver() {
	p := api.Program{Kinds: []api.Kind{{A: 2, B: 1, Kids: []api.Kid{{Kind: 0, Less: 1}, {Kind: 0, Less: 2}}}}, Arg: 2}
	r, _ := New(api.Config{Workers: 2, Room: 3, Way: api.Ring}, p)
	r.Work(0)
	r.Steal(1, 0)
	fmt.Println(r.Deliver(0) == api.OK)
	messages, _ := r.Messages()
	fmt.Println(messages[0].Kind == api.Grant, messages[0].T.ID, messages[1].Kind == api.Ack, messages[1].No)
	fmt.Println(r.Deliver(0) == api.OK)
	fmt.Println(r.Tasks(1))
	// Output:
	// true
	// true 0 true 1
	// true
	// [{0 0 1}] 0
}

func ack(from, to, no int) api.Message {
	return api.Message{From: from, To: to, No: no, Kind: api.Ack}
}

func grant(from, to, no int, task api.Task) api.Message {
	return api.Message{From: from, To: to, No: no, Kind: api.Grant, T: task}
}

func deny(from, to, no int) api.Message {
	return api.Message{From: from, To: to, No: no, Kind: api.Deny}
}

func result(from, no int, id string, v int) api.Message {
	return api.Message{From: from, No: no, Kind: api.Result, V: api.Value{ID: id, V: v}}
}

// deliver lets the messages with these numbers arrive, one after another.
func deliver(t *testing.T, r *Run, all ...int) {
	t.Helper()
	for _, i := range all {
		if e := r.Deliver(i); e != api.OK {
			t.Fatalf("Deliver(%d): %d", i, e)
		}
	}
}

// counts holds a worker's work messages against how many it should have sent and how many should have come to it.
func counts(t *testing.T, r *Run, w, sent, came int) {
	t.Helper()
	if own := r.workers[w]; own.sent != sent || own.came != came || own.black != (came > 0) {
		t.Errorf("worker %d: %d sent, %d came, black %t, want %d and %d", w, own.sent, own.came, own.black, sent, came)
	}
}

// hasKept holds the values that worker 0 has kept against their IDs.
func hasKept(t *testing.T, r *Run, want ...string) {
	t.Helper()
	var got []string
	for _, v := range r.kept.List() {
		got = append(got, v.ID)
	}
	if !slices.Equal(got, want) {
		t.Errorf("kept: %q, want %q", got, want)
	}
}

// pile is a run in which worker 1 has the first task of a line, and did so many: the Results, with the numbers from 2 on, are on their way, and nothing else.
func pile(t *testing.T, most int) (*Run, []api.Message) {
	t.Helper()
	line := api.Program{Kinds: []api.Kind{{A: 1, Kids: []api.Kid{{Less: 1}}}}, Arg: api.MaxArg}
	r := start(t, 2, 1, api.Ring, line)
	r.Steal(1, 0)
	deliver(t, r, 0, 0)
	empty(t, r)
	var all []api.Message
	id := ""
	for i := range most {
		r.Work(1)
		all = append(all, result(1, 2+i, id, api.MaxArg-i))
		id += "0"
	}
	hasMessages(t, r, all...)
	return r, all
}

func TestP8Example(t *testing.T) {
	r := start(t, 2, 3, api.Ring, example())
	r.Work(0)
	r.Steal(1, 0)
	hasMessages(t, r, request(1, 0, 1))
	deliver(t, r, 0)
	hasMessages(t, r, grant(0, 1, 1, api.Task{ID: "0", Arg: 1}), ack(0, 1, 1))
	hasTasks(t, r, 0, "1")
	hasTasks(t, r, 1)
	deliver(t, r, 0)
	hasTasks(t, r, 1, "0")
	hasMessages(t, r, ack(0, 1, 1), ack(1, 0, 1))
	r.Work(1)
	hasTasks(t, r, 1, "00")
	hasMessages(t, r, ack(0, 1, 1), ack(1, 0, 1), result(1, 2, "0", 3))
	hasKept(t, r, "")
	deliver(t, r, 2)
	hasMessages(t, r, ack(0, 1, 1), ack(1, 0, 1), ack(0, 1, 2))
	hasKept(t, r, "", "0")
	deliver(t, r, 1, 1, 0)
	hasMessages(t, r)
	for w := range 2 {
		r.Tick(w)
		hasMessages(t, r)
	}
	counts(t, r, 0, 1, 1)
	counts(t, r, 1, 1, 1)
}

// From the next number on, a number may be Window - 1 further on, and is kept; what is further on than that is gone.
func TestP8Window(t *testing.T) {
	for before := range 4 {
		for ahead := range api.Window + 3 {
			r, all := pile(t, 10)
			for range before {
				deliver(t, r, 0)
			}
			for range before {
				r.Drop(len(r.post) - 1)
			}
			deliver(t, r, ahead)
			upTo := 1 + before
			if ahead == 0 {
				upTo++
			}
			left := slices.Concat(all[before:before+ahead], all[before+ahead+1:])
			hasMessages(t, r, append(slices.Clone(left), ack(0, 1, upTo))...)
			counts(t, r, 0, 1, upTo-1)
			for range ahead {
				deliver(t, r, 0)
			}
			upTo = 1 + before + ahead
			if ahead < api.Window {
				upTo++
			}
			if got := r.post[len(r.post)-1]; got != ack(0, 1, upTo) {
				t.Errorf("%d ahead, after %d: %v, want number %d", ahead, before, got, upTo)
			}
			counts(t, r, 0, 1, upTo-1)
			if len(r.kept) != upTo-1 {
				t.Errorf("%d ahead, after %d: %d values, want %d", ahead, before, len(r.kept), upTo-1)
			}
		}
	}
}

// What has come changes nothing when it arrives again, but for an Ack.
func TestP8ComeAlready(t *testing.T) {
	r := start(t, 2, 3, api.Ring, example())
	r.Work(0)
	r.Steal(1, 0)
	r.Twice(0)
	r.Twice(0)
	granted := grant(0, 1, 1, api.Task{ID: "0", Arg: 1})
	deliver(t, r, 0, 0)
	hasMessages(t, r, request(1, 0, 1), granted, ack(0, 1, 1), ack(0, 1, 1))
	hasTasks(t, r, 0, "1")
	counts(t, r, 0, 1, 0)
	r.Twice(1)
	deliver(t, r, 1)
	hasTasks(t, r, 1, "0")
	r.Work(1)
	deliver(t, r, 3)
	hasTasks(t, r, 1, "00")
	counts(t, r, 1, 1, 1)
	hasMessages(t, r, request(1, 0, 1), ack(0, 1, 1), ack(0, 1, 1), ack(1, 0, 1), result(1, 2, "0", 3), ack(1, 0, 1))
	r.Twice(4)
	deliver(t, r, 4, 5)
	counts(t, r, 0, 1, 1)
	hasKept(t, r, "", "0")
	deliver(t, r, 0)
	hasMessages(t, r, ack(0, 1, 1), ack(0, 1, 1), ack(1, 0, 1), ack(1, 0, 1), ack(0, 1, 2), ack(0, 1, 2), ack(0, 1, 2))
	hasTasks(t, r, 0, "1")
	counts(t, r, 0, 1, 1)
}

// An answer that arrives again is no answer to what was asked since.
func TestP8OldAnswer(t *testing.T) {
	r := start(t, 3, 3, api.Ring, example())
	r.Steal(1, 2)
	deliver(t, r, 0)
	r.Twice(0)
	deliver(t, r, 0)
	hasMessages(t, r, ack(2, 1, 1), deny(2, 1, 1), ack(1, 2, 1))
	if e := r.Steal(1, 0); e != api.OK {
		t.Errorf("Steal(1, 0) after a Deny: %d", e)
	}
	deliver(t, r, 1)
	for _, victim := range []int{0, 2} {
		if e := r.Steal(1, victim); e != api.ErrBusy {
			t.Errorf("Steal(1, %d) after an old Deny: %d", victim, e)
		}
	}
}

func TestP8KeptTwice(t *testing.T) {
	r, all := pile(t, 3)
	r.Twice(2)
	r.Twice(2)
	deliver(t, r, 2, 2, 2)
	hasMessages(t, r, all[0], all[1], ack(0, 1, 1), ack(0, 1, 1), ack(0, 1, 1))
	counts(t, r, 0, 1, 0)
	hasKept(t, r)
	deliver(t, r, 0)
	counts(t, r, 0, 1, 1)
	deliver(t, r, 0)
	counts(t, r, 0, 1, 3)
	hasKept(t, r, "", "0", "00")
	hasMessages(t, r, ack(0, 1, 1), ack(0, 1, 1), ack(0, 1, 1), ack(0, 1, 2), ack(0, 1, 4))
}

// One arrival lets several come, by their numbers: two Results, and a Request; then one Ack is on its way, behind the answer.
func TestP8SeveralCome(t *testing.T) {
	r := start(t, 2, 3, api.Ring, example())
	r.Work(0)
	hand(r, 1, 3, api.Task{ID: "x"}, api.Task{ID: "y"})
	r.Work(1)
	r.Work(1)
	r.Steal(1, 0)
	hasMessages(t, r, result(1, 1, "y", 1), result(1, 2, "x", 1), request(1, 0, 3))
	deliver(t, r, 2)
	hasMessages(t, r, result(1, 1, "y", 1), result(1, 2, "x", 1), ack(0, 1, 0))
	hasTasks(t, r, 0, "0", "1")
	deliver(t, r, 1)
	hasMessages(t, r, result(1, 1, "y", 1), ack(0, 1, 0), ack(0, 1, 0))
	counts(t, r, 0, 0, 0)
	hasKept(t, r, "")
	deliver(t, r, 0)
	hasMessages(t, r, ack(0, 1, 0), ack(0, 1, 0), grant(0, 1, 1, api.Task{ID: "0", Arg: 1}), ack(0, 1, 3))
	counts(t, r, 0, 1, 2)
	hasKept(t, r, "", "x", "y")
	hasTasks(t, r, 0, "1")
}

// What is kept behind a second gap stays when the first one is closed.
func TestP8TwoGaps(t *testing.T) {
	r, all := pile(t, 5)
	deliver(t, r, 3, 1)
	hasMessages(t, r, all[0], all[2], all[4], ack(0, 1, 1), ack(0, 1, 1))
	deliver(t, r, 0)
	hasMessages(t, r, all[2], all[4], ack(0, 1, 1), ack(0, 1, 1), ack(0, 1, 3))
	deliver(t, r, 0)
	hasMessages(t, r, all[4], ack(0, 1, 1), ack(0, 1, 1), ack(0, 1, 3), ack(0, 1, 5))
	counts(t, r, 0, 1, 4)
}

// Each link has its own numbers, in either direction.
func TestP8LinksAreApart(t *testing.T) {
	r := start(t, 4, 3, api.Ring, example())
	r.Steal(1, 2)
	deliver(t, r, 0, 0)
	empty(t, r)
	r.Steal(1, 2)
	r.Steal(2, 1)
	r.Steal(3, 2)
	hasMessages(t, r, request(1, 2, 2), request(2, 1, 2), request(3, 2, 1))
	deliver(t, r, 2)
	hasMessages(t, r, request(1, 2, 2), request(2, 1, 2), deny(2, 3, 1), ack(2, 3, 1))
	deliver(t, r, 1)
	hasMessages(t, r, request(1, 2, 2), deny(2, 3, 1), ack(2, 3, 1), deny(1, 2, 3), ack(1, 2, 2))
	deliver(t, r, 4, 0)
	hasMessages(t, r, deny(2, 3, 1), ack(2, 3, 1), deny(1, 2, 3), deny(2, 1, 3), ack(2, 1, 2))
	empty(t, r)
	r.Tick(2)
	hasMessages(t, r, deny(2, 1, 3), deny(2, 3, 1))
}

// An Ack that says up to no makes known what has these numbers, and never less than an earlier one. It is behind no Ack itself.
func TestP8Acks(t *testing.T) {
	const most = 6
	for no := range most + 2 {
		for then := range most + 2 {
			r, all := pile(t, most)
			for range most {
				deliver(t, r, 0)
			}
			empty(t, r)
			r.post.Put(ack(0, 1, no), ack(0, 1, then))
			for _, upTo := range []int{no, max(no, then)} {
				left := len(r.post) - 1
				deliver(t, r, 0)
				if len(r.post) != left {
					t.Errorf("behind an Ack: %v", r.post)
				}
				again := []api.Message{request(1, 0, 1)}
				if upTo > 0 {
					again = all[upTo-1:][:min(1, most+1-upTo)]
				}
				r.Tick(1)
				if got := r.post[left:]; !slices.Equal(got, again) {
					t.Errorf("Acks up to %d and %d: sent again %v, want %v", no, then, got, again)
				}
				for len(r.post) > left {
					r.Drop(left)
				}
			}
		}
	}
}

// An Ack is about the link to the worker it is from, and no other.
func TestP8AckOfOneLink(t *testing.T) {
	r := start(t, 3, 3, api.Waves, example())
	r.send(0, 1, api.Message{Kind: api.Wave})
	r.send(0, 2, api.Message{Kind: api.Wave})
	r.Steal(1, 0)
	r.Steal(2, 0)
	empty(t, r)
	r.post.Put(ack(1, 0, 1))
	deliver(t, r, 0)
	for w := range 3 {
		r.Tick(w)
	}
	hasMessages(t, r, api.Message{From: 0, To: 2, No: 1, Kind: api.Wave}, request(1, 0, 1), request(2, 0, 1))
}

// What was lost is sent again until it has come and its Ack has: then the next one is.
func TestP8SentAgain(t *testing.T) {
	r, all := pile(t, 3)
	empty(t, r)
	r.Tick(1)
	hasMessages(t, r, request(1, 0, 1))
	deliver(t, r, 0)
	hasMessages(t, r, ack(0, 1, 1))
	r.Drop(0)
	r.Tick(1)
	hasMessages(t, r, request(1, 0, 1))
	deliver(t, r, 0, 0)
	for i := range all {
		hasMessages(t, r)
		r.Tick(1)
		hasMessages(t, r, all[i])
		deliver(t, r, 0)
		hasMessages(t, r, ack(0, 1, 2+i))
		deliver(t, r, 0)
	}
	r.Tick(1)
	hasMessages(t, r)
	hasKept(t, r, "", "0", "00")
}

// A message that is delivered leaves room for one: in a full list the answer takes it, and the Ack is lost.
func TestP8Full(t *testing.T) {
	for _, before := range []int{api.MaxMessages - 1, api.MaxMessages} {
		for victim, answer := range []api.Message{grant(0, 2, 1, api.Task{ID: "0", Arg: 1}), deny(1, 2, 1)} {
			r := start(t, 3, 3, api.Ring, example())
			r.Work(0)
			r.Steal(2, victim)
			fill(t, r, before)
			deliver(t, r, 0)
			want := slices.Repeat([]api.Message{request(2, victim, 1)}, before-1)
			want = append(want, answer, ack(victim, 2, 1))
			hasMessages(t, r, want[:min(len(want), api.MaxMessages)]...)
			empty(t, r)
			r.Tick(victim)
			r.Tick(2)
			hasMessages(t, r, answer, request(2, victim, 1))
			deliver(t, r, 1)
			hasMessages(t, r, answer, ack(victim, 2, 1))
		}
	}
}

// An Ack alone always finds the room of the message that it is for, whether that has come, is kept, or is neither.
func TestP8FullOfAcks(t *testing.T) {
	for i := range 7 {
		r, all := pile(t, 7)
		for len(r.post) < api.MaxMessages {
			r.Twice(6)
		}
		deliver(t, r, i)
		want := append(slices.Clone(all), slices.Repeat(all[6:], api.MaxMessages-7)...)
		want = append(slices.Delete(want, i, i+1), ack(0, 1, max(1, 2-i)))
		hasMessages(t, r, want...)
	}
}

// Each message may be the one that arrives; those behind it stand one place ahead.
func TestP8FirstAndLast(t *testing.T) {
	all := []api.Message{request(1, 0, 1), request(2, 1, 1), request(3, 2, 1), request(4, 3, 1)}
	for i := range all {
		r := five(t)
		deliver(t, r, i)
		answer := deny(i, i+1, 1)
		if i == 0 {
			answer = grant(0, 1, 1, api.Task{Arg: 2})
		}
		hasMessages(t, r, slices.Concat(all[:i], all[i+1:], []api.Message{answer, ack(i, i+1, 1)})...)
		deliver(t, r, 4)
		if got, _ := r.Messages(); len(got) != 4 || got[3] != answer {
			t.Errorf("behind the last of five: %v", got)
		}
	}
}

func TestP8NoSuchMessage(t *testing.T) {
	for _, most := range []int{0, 1, 2, 4, api.MaxMessages - 1, api.MaxMessages} {
		r := five(t)
		for len(r.post) > most {
			r.Drop(0)
		}
		if most > 0 {
			fill(t, r, most)
		}
		before, _ := r.Messages()
		for _, i := range append(edges(), most, most+1, -most, api.MaxMessages, api.MaxMessages+1) {
			if i >= 0 && i < most {
				continue
			}
			if e := r.Deliver(i); e != api.ErrMessage {
				t.Errorf("of %d: Deliver(%d) = %d", most, i, e)
			}
		}
		hasMessages(t, r, before...)
		hasTasks(t, r, 0, "")
		for w := range 5 {
			counts(t, r, w, 0, 0)
		}
	}
}

// Who is asked gives its oldest task away, and does its youngest, until there is none.
func TestP6OldestIsGranted(t *testing.T) {
	r := start(t, 5, 20, api.Waves, threes())
	r.Work(0)
	own := []api.Task{{ID: "0", Arg: 2}, {ID: "1", Arg: 2}, {ID: "2", Arg: 2}}
	for w := 1; w < 5; w++ {
		r.Steal(w, 0)
	}
	for i, task := range own {
		deliver(t, r, 0)
		if got := r.post[len(r.post)-2]; got != grant(0, i+1, 1, task) {
			t.Errorf("Grant %d: %v", i, got)
		}
		if l, e := r.Tasks(0); !slices.Equal(l, own[i+1:]) || e != api.OK {
			t.Errorf("left after Grant %d: %v, %d", i, l, e)
		}
		counts(t, r, 0, i+1, 0)
	}
	if e := r.Work(0); e != api.ErrIdle {
		t.Errorf("Work(0) after all was granted: %d", e)
	}
	deliver(t, r, 0)
	if got := r.post[len(r.post)-2:]; !slices.Equal(got, []api.Message{deny(0, 4, 1), ack(0, 4, 1)}) {
		t.Errorf("behind a Request to an idle worker: %v", got)
	}
	counts(t, r, 0, 3, 0)
	for w, want := range []string{1: "0", 2: "1", 3: "2"} {
		if w > 0 {
			deliver(t, r, 0, 0)
			hasTasks(t, r, w, want)
			counts(t, r, w, 0, 1)
		}
	}
	deliver(t, r, 0)
	hasTasks(t, r, 4)
	counts(t, r, 4, 0, 0)
}

// A worker that waits for an answer is idle; here it is handed two tasks all the same.
func TestP6GrantIsYoungest(t *testing.T) {
	r := start(t, 2, 3, api.Ring, example())
	r.Steal(1, 0)
	deliver(t, r, 0)
	hand(r, 1, 3, api.Task{ID: "x"}, api.Task{ID: "y"})
	deliver(t, r, 0)
	if l, e := r.Tasks(1); !slices.Equal(l, []api.Task{{ID: "x"}, {ID: "y"}, {Arg: 2}}) || e != api.OK {
		t.Errorf("Tasks(1) = %v, %d", l, e)
	}
}

// A worker's own room is for what it is granted too.
func TestP6GrantTakesRoom(t *testing.T) {
	for _, room := range []int{1, 2} {
		r := start(t, 2, room, api.Ring, example())
		r.Steal(1, 0)
		deliver(t, r, 0, 0)
		want := api.OK
		if room == 1 {
			want = api.ErrOverflow
		}
		if e := r.Work(1); e != want {
			t.Errorf("room %d: Work(1) = %d, want %d", room, e, want)
		}
	}
}

// Who was answered may ask again; after a Grant, when it is idle again.
func TestP6AskAgain(t *testing.T) {
	r := start(t, 3, 3, api.Ring, example())
	asks := func(when string, want api.Errno) {
		t.Helper()
		if e := r.Steal(1, 2); e != want {
			t.Errorf("Steal(1, 2) %s: %d, want %d", when, e, want)
		}
	}
	asks("at first", api.OK)
	deliver(t, r, 0)
	asks("when the Request has come", api.ErrBusy)
	deliver(t, r, 1)
	asks("when the Ack has come", api.ErrBusy)
	deliver(t, r, 0)
	asks("when a Deny has come", api.OK)
	empty(t, r)
	hand(r, 2, 3, api.Task{ID: "1"})
	r.Tick(1)
	deliver(t, r, 0, 0)
	hasTasks(t, r, 1, "1")
	asks("when a Grant has come", api.ErrBusy)
	if e := r.Work(1); e != api.OK {
		t.Errorf("Work(1): %d", e)
	}
	asks("when what was granted is done", api.OK)
}

// A Deny that is kept is no answer until it has come.
func TestP6KeptIsNoAnswer(t *testing.T) {
	r := start(t, 2, 3, api.Ring, example())
	r.send(0, 1, api.Message{Kind: api.Wave})
	r.Steal(1, 0)
	hand(r, 0, 3)
	deliver(t, r, 1)
	wave := api.Message{From: 0, To: 1, No: 1, Kind: api.Wave}
	hasMessages(t, r, wave, deny(0, 1, 2), ack(0, 1, 1))
	deliver(t, r, 1)
	hasMessages(t, r, wave, ack(0, 1, 1), ack(1, 0, 0))
	if e := r.Steal(1, 0); e != api.ErrBusy {
		t.Errorf("Steal(1, 0) while a Deny is kept: %d", e)
	}
	deliver(t, r, 0)
	if e := r.Steal(1, 0); e != api.OK {
		t.Errorf("Steal(1, 0) when the Deny has come: %d", e)
	}
}

// Only Grants and Results are counted, and make a worker black.
func TestP8Counts(t *testing.T) {
	r := start(t, 3, 3, api.Ring, example())
	r.Steal(1, 2)
	deliver(t, r, 0, 0, 0, 0)
	for w := range 3 {
		counts(t, r, w, 0, 0)
	}
	r.Steal(1, 0)
	deliver(t, r, 0)
	counts(t, r, 0, 1, 0)
	counts(t, r, 1, 0, 0)
	deliver(t, r, 0)
	counts(t, r, 1, 0, 1)
	r.Work(1)
	counts(t, r, 1, 1, 1)
	r.Steal(2, 1)
	r.Tick(1)
	r.Tick(0)
	counts(t, r, 0, 1, 0)
	counts(t, r, 1, 1, 1)
	for len(r.post) > 0 {
		deliver(t, r, 0)
	}
	counts(t, r, 0, 1, 1)
	counts(t, r, 1, 2, 1)
	counts(t, r, 2, 0, 1)
}

func TestP1OverflowOfDeliver(t *testing.T) {
	r := start(t, 3, 1, api.Ring, example())
	r.Steal(1, 0)
	r.Steal(2, 1)
	deliver(t, r, 1)
	before, _ := r.Messages()
	if e := r.Work(0); e != api.ErrOverflow {
		t.Fatalf("Work(0) = %d, want ErrOverflow", e)
	}
	for _, i := range edges() {
		if e := r.Deliver(i); e != api.ErrOverflow {
			t.Errorf("Deliver(%d) = %d, want ErrOverflow", i, e)
		}
	}
	hasMessages(t, r, before...)
	hasTasks(t, r, 0, "")
}

func TestP1NilOfDeliver(t *testing.T) {
	var r *Run
	for _, i := range edges() {
		if e := r.Deliver(i); e != api.ErrNil {
			t.Errorf("Deliver(%d) = %d, want ErrNil", i, e)
		}
	}
}

func TestP2DeliverLeavesAnswers(t *testing.T) {
	r, _ := pile(t, 7)
	l, _ := r.Messages()
	own, _ := r.Tasks(1)
	all, tasks := slices.Clone(l[:cap(l)]), slices.Clone(own[:cap(own)])
	for len(r.post) > 0 {
		deliver(t, r, len(r.post)/2)
	}
	r.Tick(1)
	if !slices.Equal(l[:cap(l)], all) || !slices.Equal(own[:cap(own)], tasks) {
		t.Errorf("answers changed with the run: %v, %v", l, own)
	}
}

func TestP2DeliverIsApart(t *testing.T) {
	a, all := pile(t, 3)
	b, _ := pile(t, 3)
	deliver(t, a, 1, 1)
	hasMessages(t, b, all...)
	deliver(t, b, 0)
	hasMessages(t, b, all[1], all[2], ack(0, 1, 2))
	counts(t, b, 0, 1, 1)
	deliver(t, a, 0, 0, 0, 0)
	hasMessages(t, b, all[1], all[2], ack(0, 1, 2))
	hasKept(t, b, "")
	hasKept(t, a, "", "0", "00")
	b.Tick(1)
	hasMessages(t, b, all[1], all[2], ack(0, 1, 2), request(1, 0, 1))
}

func TestP8ManyRuns(t *testing.T) {
	number := numbers()
	seen, came := map[api.Errno]int{}, map[int]int{}
	full := 0
	for range 600 {
		p := anyProgram(number, 0)
		c := api.Config{Workers: 2 + number(4), Room: 3 + number(api.MaxRoom-2), Way: 1 + number(2)}
		s := newShadow(p, c)
		r, e := New(c, p)
		if e != api.OK {
			continue
		}
		often := 1 + number(12)
		for range 400 {
			call, got, want := play(r, s, number, often)
			seen[want]++
			if got != want || !s.same(r) {
				t.Fatalf("%v, %v: %s = %d, want %d, and %v", c, p, call, got, want, s)
			}
			if len(s.way) == api.MaxMessages {
				full++
			}
		}
		for _, m := range s.came {
			came[m.Kind]++
		}
	}
	for _, e := range []api.Errno{api.OK, api.ErrOverflow, api.ErrWorker, api.ErrIdle, api.ErrBusy, api.ErrMessage} {
		if seen[e] < 300 {
			t.Errorf("too few of a sort: %v", seen)
		}
	}
	for _, kind := range []int{api.Request, api.Grant, api.Deny, api.Result} {
		if came[kind] < 300 {
			t.Errorf("too few of a kind came: %v", came)
		}
	}
	if full < 300 {
		t.Errorf("the list was full %d times only", full)
	}
}

// calm lets all work, send again, and have their messages, until nothing is left to do.
func calm(t *testing.T, r *Run) {
	t.Helper()
	for range 2000 {
		busy := false
		for w := range r.workers {
			busy = r.Work(w) == api.OK || busy
			r.Tick(w)
		}
		busy = busy || len(r.post) > 0
		for len(r.post) > 0 {
			deliver(t, r, 0)
		}
		if !busy {
			return
		}
	}
	t.Fatal("there is no end")
}

// Whatever was lost, doubled and overtaken, in the end all values have come to worker 0, and as many work messages came as were sent.
func TestP8AllComesInTheEnd(t *testing.T) {
	number := numbers()
	shared := 0
	for range 300 {
		p := anyProgram(number, 0)
		c := api.Config{Workers: 2 + number(4), Room: api.MaxRoom, Way: 1 + number(2)}
		s := newShadow(p, c)
		r, e := New(c, p)
		if e != api.OK {
			continue
		}
		often := 1 + number(12)
		for range 300 {
			play(r, s, number, often)
		}
		if r.overflow || r.announced {
			continue
		}
		calm(t, r)
		want, _ := Unfold(p)
		if got := r.kept.List(); !slices.Equal(got, want) {
			t.Fatalf("%v: kept %v, want %v", p, got, want)
		}
		sent, came := 0, 0
		for w := range r.workers {
			hasTasks(t, r, w)
			sent += r.workers[w].sent
			came += r.workers[w].came
		}
		if sent != came {
			t.Errorf("%v: %d work messages were sent, %d came", p, sent, came)
		}
		shared += sent
	}
	if shared < 1000 {
		t.Errorf("too few work messages: %d", shared)
	}
}
