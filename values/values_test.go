package values

import (
	"slices"
	"testing"

	"glean/api"
)

func TestList(t *testing.T) {
	s := Set{}
	if l := s.List(); len(l) != 0 {
		t.Errorf("of none: %v", l)
	}
	s.Keep()
	s.Keep(api.Value{ID: "1", V: 4}, api.Value{ID: "00", V: 3}, api.Value{ID: "10", V: 5})
	s.Keep(api.Value{ID: "0", V: 2})
	s.Keep(api.Value{ID: "", V: 1})
	want := []api.Value{{ID: "", V: 1}, {ID: "0", V: 2}, {ID: "00", V: 3}, {ID: "1", V: 4}, {ID: "10", V: 5}}
	if l := s.List(); !slices.Equal(l, want) {
		t.Errorf("list: %v, want %v", l, want)
	}
}

func TestKeepAgain(t *testing.T) {
	s := Set{}
	v := api.Value{ID: "0", V: 7}
	s.Keep(v, v)
	s.Keep(v)
	if l := s.List(); !slices.Equal(l, []api.Value{v}) {
		t.Errorf("kept again: %v", l)
	}
}

func TestListIsNew(t *testing.T) {
	s := Set{}
	s.Keep(api.Value{ID: "0", V: 1}, api.Value{ID: "1", V: 2})
	first, second := s.List(), s.List()
	first = first[:cap(first)]
	for i := range first {
		first[i] = api.Value{ID: "other", V: -1}
	}
	want := []api.Value{{ID: "0", V: 1}, {ID: "1", V: 2}}
	if !slices.Equal(second, want) || !slices.Equal(s.List(), want) {
		t.Errorf("changed with another list: %v, %v", second, s.List())
	}
}
