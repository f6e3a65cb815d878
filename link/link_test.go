package link

import (
	"testing"

	"glean/api"
)

// drain takes all out that isn't known to have come.
func drain(o *Out) []api.Message {
	var l []api.Message
	for len(o.open) > 0 {
		l = append(l, <-o.open)
	}
	return l
}

func TestSend(t *testing.T) {
	for _, most := range []int{0, 1, api.Window - 1, api.Window, api.Window + 1, 2 * api.Window, 2*api.Window + 1, 1000} {
		o := NewOut()
		for i := range most {
			thing := api.Message{From: 2, To: 1, Kind: api.Result, V: api.Value{ID: "0", V: i}}
			want := thing
			want.No = i + 1
			if got := o.Send(thing); got != want {
				t.Errorf("sent: %v, want %v", got, want)
			}
		}
		l := drain(o)
		if len(l) != most {
			t.Errorf("%d of %d are not known to have come", len(l), most)
		}
		for i, m := range l {
			if m != (api.Message{From: 2, To: 1, No: i + 1, Kind: api.Result, V: api.Value{ID: "0", V: i}}) {
				t.Errorf("thing %d: %v", i, m)
			}
		}
	}
}

// What is taken out ahead of the others makes room, and the order stays when there is more room.
func TestSendBehindAReceive(t *testing.T) {
	o := NewOut()
	next := 1
	for i := range 200 {
		o.Send(api.Message{Count: i})
		if i%3 == 0 {
			if m := <-o.open; m.No != next || m.Count != next-1 {
				t.Errorf("taken out: %v, want number %d", m, next)
			}
			next++
		}
	}
	for _, m := range drain(o) {
		if m.No != next || m.Count != next-1 {
			t.Errorf("left: %v, want number %d", m, next)
		}
		next++
	}
	if next != 201 {
		t.Errorf("the last number is %d, want 200", next-1)
	}
}

func TestLinksAreApart(t *testing.T) {
	a, b := NewOut(), NewOut()
	a.Send(api.Message{})
	a.Send(api.Message{})
	if m := b.Send(api.Message{}); m.No != 1 {
		t.Errorf("the first number of a link is %d", m.No)
	}
	if len(drain(a)) != 2 || len(drain(b)) != 1 {
		t.Error("links share what was sent")
	}
}

func TestOldest(t *testing.T) {
	for _, most := range []int{0, 1, api.Window - 1, api.Window, api.Window + 1, 2*api.Window + 1, 1000} {
		o := NewOut()
		for i := range most {
			o.Send(api.Message{Kind: api.Result, V: api.Value{ID: "0", V: i}})
		}
		want := api.Message{No: 1, Kind: api.Result, V: api.Value{ID: "0"}}
		if most == 0 {
			want = api.Message{}
		}
		for range 3 {
			if got, ok := o.Oldest(); got != want || ok != (most > 0) {
				t.Errorf("of %d: %v, %t, want %v", most, got, ok, want)
			}
		}
		l := drain(o)
		if len(l) != most {
			t.Errorf("%d of %d are left", len(l), most)
		}
		for i, m := range l {
			if m.No != i+1 || m.V.V != i {
				t.Errorf("of %d: thing %d: %v", most, i, m)
			}
		}
	}
}

// The oldest is another one when the first ones are known to have come, and sending goes on behind the others.
func TestOldestBetweenOthers(t *testing.T) {
	o := NewOut()
	taken := 0
	for i := 1; i <= 100; i++ {
		if m := o.Send(api.Message{Count: 7 * i}); m.No != i {
			t.Errorf("sent: %v, want number %d", m, i)
		}
		if i%2 == 0 {
			<-o.open
			taken++
		}
		want := api.Message{No: taken + 1, Count: 7 * (taken + 1)}
		if got, ok := o.Oldest(); got != want || !ok {
			t.Errorf("after %d: %v, %t, want %v", i, got, ok, want)
		}
	}
	for len(o.open) > 0 {
		<-o.open
	}
	if got, ok := o.Oldest(); ok || got != (api.Message{}) {
		t.Errorf("of a link on which all is known to have come: %v, %t", got, ok)
	}
	if m := o.Send(api.Message{}); m.No != 101 {
		t.Errorf("sent: %v, want number 101", m)
	}
}

func TestThroughBrokenOff(t *testing.T) {
	for stop := range 7 {
		o := NewOut()
		for i := range 6 {
			o.Send(api.Message{Count: i})
		}
		var told []int
		for m := range o.through(6) {
			if len(told) == stop {
				break
			}
			told = append(told, m.No)
		}
		if len(told) != min(stop, 6) {
			t.Errorf("told until %d: %v", stop, told)
		}
		l := drain(o)
		if len(l) != 6 {
			t.Errorf("broken off at %d: %d are left", stop, len(l))
		}
		for i, m := range l {
			if m != (api.Message{No: i + 1, Count: i}) {
				t.Errorf("broken off at %d: thing %d: %v", stop, i, m)
			}
		}
		if m := o.Send(api.Message{}); m.No != 7 {
			t.Errorf("broken off at %d: then sent %v", stop, m)
		}
	}
}

// What has numbers up to the one that is told is taken out, nothing else; what was told already, or less, changes nothing.
func TestKnown(t *testing.T) {
	for most := range 3 * api.Window {
		for no := -1; no <= most+1; no++ {
			for then := -1; then <= most+1; then++ {
				o := NewOut()
				for i := range most {
					o.Send(api.Message{Count: i})
				}
				o.Known(no)
				o.Known(then)
				first := min(max(no, then, 0), most) + 1
				want := api.Message{No: first, Count: first - 1}
				if got, ok := o.Oldest(); ok != (first <= most) || ok && got != want {
					t.Errorf("%d sent, known up to %d and %d: oldest %v, %t", most, no, then, got, ok)
				}
				for _, m := range drain(o) {
					if m.No != first || m.Count != first-1 {
						t.Errorf("%d sent, known up to %d and %d: left %v, want number %d", most, no, then, m, first)
					}
					first++
				}
				if first != most+1 {
					t.Errorf("%d sent, known up to %d and %d: left up to %d", most, no, then, first-1)
				}
			}
		}
	}
}

func TestSendBehindKnown(t *testing.T) {
	o := NewOut()
	known := 0
	for no := 1; no <= 200; no++ {
		if m := o.Send(api.Message{Count: 3 * no}); m.No != no {
			t.Errorf("sent: %v, want number %d", m, no)
		}
		if no%7 == 0 {
			known = no - no%5
			o.Known(known)
		}
		if m, ok := o.Oldest(); ok != (known < no) || ok && m != (api.Message{No: known + 1, Count: 3 * (known + 1)}) {
			t.Errorf("known up to %d of %d: oldest %v, %t", known, no, m, ok)
		}
	}
}
