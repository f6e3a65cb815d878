package link

import (
	"testing"

	"glean/api"
)

// drain takes all out that isn't known to have come.
func drain(o *Out) []api.Message {
	var l []api.Message
	for len(o.open) > 0 {
		l = append(l, <-o.open)
	}
	return l
}

func TestSend(t *testing.T) {
	for _, most := range []int{0, 1, api.Window - 1, api.Window, api.Window + 1, 2 * api.Window, 2*api.Window + 1, 1000} {
		o := NewOut()
		for i := range most {
			thing := api.Message{From: 2, To: 1, Kind: api.Result, V: api.Value{ID: "0", V: i}}
			want := thing
			want.No = i + 1
			if got := o.Send(thing); got != want {
				t.Errorf("sent: %v, want %v", got, want)
			}
		}
		l := drain(o)
		if len(l) != most {
			t.Errorf("%d of %d are not known to have come", len(l), most)
		}
		for i, m := range l {
			if m != (api.Message{From: 2, To: 1, No: i + 1, Kind: api.Result, V: api.Value{ID: "0", V: i}}) {
				t.Errorf("thing %d: %v", i, m)
			}
		}
	}
}

// What is taken out ahead of the others makes room, and the order stays when there is more room.
func TestSendBehindAReceive(t *testing.T) {
	o := NewOut()
	next := 1
	for i := range 200 {
		o.Send(api.Message{Count: i})
		if i%3 == 0 {
			if m := <-o.open; m.No != next || m.Count != next-1 {
				t.Errorf("taken out: %v, want number %d", m, next)
			}
			next++
		}
	}
	for _, m := range drain(o) {
		if m.No != next || m.Count != next-1 {
			t.Errorf("left: %v, want number %d", m, next)
		}
		next++
	}
	if next != 201 {
		t.Errorf("the last number is %d, want 200", next-1)
	}
}

func TestLinksAreApart(t *testing.T) {
	a, b := NewOut(), NewOut()
	a.Send(api.Message{})
	a.Send(api.Message{})
	if m := b.Send(api.Message{}); m.No != 1 {
		t.Errorf("the first number of a link is %d", m.No)
	}
	if len(drain(a)) != 2 || len(drain(b)) != 1 {
		t.Error("links share what was sent")
	}
}
