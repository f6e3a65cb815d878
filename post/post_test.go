package post

import (
	"slices"
	"testing"

	"glean/api"
)

func numbered(from, to int) []api.Message {
	var l []api.Message
	for i := from; i < to; i++ {
		l = append(l, api.Message{No: i})
	}
	return l
}

func TestPut(t *testing.T) {
	for _, most := range []int{0, 1, 2, api.MaxMessages - 1, api.MaxMessages, api.MaxMessages + 1, 3 * api.MaxMessages} {
		want := numbered(0, min(most, api.MaxMessages))
		var one, many List
		for _, m := range numbered(0, most) {
			one.Put(m)
		}
		many.Put(numbered(0, most)...)
		if !slices.Equal(one, want) || !slices.Equal(many, want) {
			t.Errorf("%d messages: %v, %v", most, one, many)
		}
	}
}

func TestPutBesideOthers(t *testing.T) {
	var l List
	l.Put(numbered(0, api.MaxMessages-2)...)
	l.Put(numbered(api.MaxMessages-2, api.MaxMessages+5)...)
	if !slices.Equal(l, numbered(0, api.MaxMessages)) {
		t.Errorf("messages: %v", l)
	}
}
