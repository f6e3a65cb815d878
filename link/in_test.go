package link

import (
	"slices"
	"testing"

	"glean/api"
)

// thing is one that is like no other.
func thing(no int) api.Message {
	return api.Message{From: 1, To: 2, No: no, Kind: api.Result, V: api.Value{V: 10 * no}}
}

// things are those with these numbers.
func things(nos ...int) []api.Message {
	var l []api.Message
	for _, no := range nos {
		l = append(l, thing(no))
	}
	return l
}

// arrives holds what comes by a thing against the numbers that should.
func arrives(t *testing.T, n *In, no int, want ...int) {
	t.Helper()
	if got := n.Arrive(thing(no)); !slices.Equal(got, things(want...)) {
		t.Errorf("with number %d has come: %v, want %v", no, got, want)
	}
}

func TestArriveInOrder(t *testing.T) {
	n := NewIn()
	if n.Came() != 0 {
		t.Errorf("at first all has come up to %d", n.Came())
	}
	for no := 1; no <= 50; no++ {
		arrives(t, n, no, no)
		if n.Came() != no {
			t.Errorf("after %d all has come up to %d", no, n.Came())
		}
	}
}

// From the next number on Window are looked at; what is further on, or has come, is as if it had not arrived.
func TestArriveWindow(t *testing.T) {
	for before := range 3 * api.Window {
		for no := -2; no <= before+3*api.Window; no++ {
			n := NewIn()
			for i := 1; i <= before; i++ {
				n.Arrive(thing(i))
			}
			first := no == before+1
			kept := no > before+1 && no <= before+api.Window
			var now []int
			if first {
				now = append(now, no)
			}
			arrives(t, n, no, now...)
			for i := before + 1; i <= before+api.Window+1; i++ {
				switch {
				case first && i == no:
					continue
				case kept && i == no-1:
					arrives(t, n, i, i, no)
				case kept && i == no:
					arrives(t, n, i)
				default:
					arrives(t, n, i, i)
				}
			}
			if want := before + api.Window + 1; n.Came() != want || len(n.kept) != 0 {
				t.Errorf("%d behind %d: all has come up to %d, want %d; kept %v", no, before, n.Came(), want, n.kept)
			}
		}
	}
}

func TestArriveAgain(t *testing.T) {
	n := NewIn()
	arrives(t, n, 1, 1)
	arrives(t, n, 1)
	arrives(t, n, 3)
	arrives(t, n, 3)
	arrives(t, n, 1)
	if n.Came() != 1 || len(n.kept) != 1 {
		t.Errorf("all has come up to %d, kept %v", n.Came(), n.kept)
	}
	arrives(t, n, 2, 2, 3)
	arrives(t, n, 3)
	arrives(t, n, 2)
	if n.Came() != 3 || len(n.kept) != 0 {
		t.Errorf("all has come up to %d, kept %v", n.Came(), n.kept)
	}
}

// Whatever order the numbers of a window arrive in, all come, each once, by rising numbers.
func TestArriveInAnyOrder(t *testing.T) {
	const most = api.Window
	for code := range most * most * most * most {
		n := NewIn()
		var got []api.Message
		for rest, i := code, 0; i < most; rest, i = rest/most, i+1 {
			got = append(got, n.Arrive(thing(1+rest%most))...)
		}
		for no := 1; no <= most; no++ {
			got = append(got, n.Arrive(thing(no))...)
		}
		if !slices.Equal(got, things(1, 2, 3, 4)) || n.Came() != most || len(n.kept) != 0 {
			t.Errorf("order %d: %v, up to %d", code, got, n.Came())
		}
	}
}

func TestInsAreApart(t *testing.T) {
	a, b := NewIn(), NewIn()
	arrives(t, a, 2)
	arrives(t, b, 1, 1)
	if a.Came() != 0 || b.Came() != 1 {
		t.Errorf("all has come up to %d and %d", a.Came(), b.Came())
	}
	arrives(t, a, 1, 1, 2)
}
