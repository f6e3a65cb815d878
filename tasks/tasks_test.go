package tasks

import (
	"slices"
	"testing"

	"glean/api"
)

// named are tasks of these IDs.
func named(ids ...string) []api.Task {
	var l []api.Task
	for i, id := range ids {
		l = append(l, api.Task{ID: id, Kind: i, Arg: 7 - i})
	}
	return l
}

func TestIdle(t *testing.T) {
	if l := New(3); !l.Idle() || len(slices.Collect(l.All())) != 0 {
		t.Error("a list without tasks is idle")
	}
	if l := New(1, named("")...); l.Idle() {
		t.Error("a list with a task is not idle")
	}
}

func TestAllAndYoungest(t *testing.T) {
	want := named("0", "10", "11")
	l := New(3, want...)
	for range 2 {
		if got := slices.Collect(l.All()); !slices.Equal(got, want) {
			t.Errorf("tasks: %v, want %v", got, want)
		}
		if got := l.Youngest(); got != want[2] {
			t.Errorf("youngest: %v, want %v", got, want[2])
		}
	}
	for got := range l.All() {
		if got != want[0] {
			t.Errorf("oldest: %v, want %v", got, want[0])
		}
		break
	}
}

func TestReplace(t *testing.T) {
	for children := range 4 {
		for others := range 4 {
			for room := others + 1; room < 8; room++ {
				before := named("a", "b", "c", "d")[:others+1]
				born := named("x", "y", "z")[:children]
				want := slices.Concat(before[:others], born)
				fits := len(want) <= room
				if !fits {
					want = before
				}
				l := New(room, before...)
				if got := l.Replace(slices.Values(born)); got != fits {
					t.Errorf("%d children beside %d, room %d: %t", children, others, room, got)
				}
				if got := slices.Collect(l.All()); !slices.Equal(got, want) {
					t.Errorf("%d children beside %d, room %d: %v, want %v", children, others, room, got, want)
				}
			}
		}
	}
}

func TestPut(t *testing.T) {
	all := named("a", "b", "c", "d")
	for before := range 4 {
		for more := range 4 - before {
			l := New(9, all[:before]...)
			l.Put(all[before : before+more]...)
			if got := slices.Collect(l.All()); !slices.Equal(got, all[:before+more]) {
				t.Errorf("%d put behind %d: %v", more, before, got)
			}
		}
	}
}

func TestTakeOldest(t *testing.T) {
	all := named("a", "b", "c")
	l := New(3, all...)
	for i, want := range all {
		if got := l.TakeOldest(); got != want {
			t.Errorf("oldest: %v, want %v", got, want)
		}
		if got := slices.Collect(l.All()); !slices.Equal(got, all[i+1:]) || l.Idle() != (i == 2) {
			t.Errorf("left: %v, want %v", got, all[i+1:])
		}
	}
}

// What was given away leaves room.
func TestRoomBehindTakeOldest(t *testing.T) {
	l := New(3, named("a", "b", "c")...)
	if l.Replace(slices.Values(named("x", "y"))) {
		t.Error("two children beside two tasks, room 3")
	}
	l.TakeOldest()
	if !l.Replace(slices.Values(named("x", "y"))) {
		t.Error("no room for two children beside one task, room 3")
	}
	l.TakeOldest()
	l.Put(named("z")...)
	want := append(named("x", "y"), named("z")...)
	if got := slices.Collect(l.All()); !slices.Equal(got, want) {
		t.Errorf("tasks: %v, want %v", got, want)
	}
}

func TestListIsItsOwn(t *testing.T) {
	first := named("a", "b", "c")
	want := slices.Clone(first)
	l := New(9, first[:2]...)
	first[0].ID = "changed"
	if got := slices.Collect(l.All()); !slices.Equal(got, want[:2]) {
		t.Errorf("changed with what it was made of: %v", got)
	}
	l.Replace(slices.Values(named("x", "y", "z")))
	l.Put(named("u", "v")...)
	l.TakeOldest()
	if first[1] != want[1] || first[2] != want[2] {
		t.Errorf("changed what it was made of: %v", first)
	}
}
