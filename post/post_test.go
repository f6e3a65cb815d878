package post

import (
	"math"
	"slices"
	"testing"

	"glean/api"
)

func numbered(from, to int) []api.Message {
	var l []api.Message
	for i := from; i < to; i++ {
		l = append(l, api.Message{No: i})
	}
	return l
}

func TestPut(t *testing.T) {
	for _, most := range []int{0, 1, 2, api.MaxMessages - 1, api.MaxMessages, api.MaxMessages + 1, 3 * api.MaxMessages} {
		want := numbered(0, min(most, api.MaxMessages))
		var one, many List
		for _, m := range numbered(0, most) {
			one.Put(m)
		}
		many.Put(numbered(0, most)...)
		if !slices.Equal(one, want) || !slices.Equal(many, want) {
			t.Errorf("%d messages: %v, %v", most, one, many)
		}
	}
}

func TestPutBesideOthers(t *testing.T) {
	var l List
	l.Put(numbered(0, api.MaxMessages-2)...)
	l.Put(numbered(api.MaxMessages-2, api.MaxMessages+5)...)
	if !slices.Equal(l, numbered(0, api.MaxMessages)) {
		t.Errorf("messages: %v", l)
	}
}

func TestHas(t *testing.T) {
	for _, most := range []int{0, 1, 2, api.MaxMessages - 1, api.MaxMessages} {
		var l List
		l.Put(numbered(0, most)...)
		for _, i := range []int{math.MinInt, -1, 0, 1, most - 2, most - 1, most, most + 1, api.MaxMessages, math.MaxInt} {
			if got := l.Has(i); got != (i >= 0 && i < most) {
				t.Errorf("of %d messages, %d: %t", most, i, got)
			}
		}
	}
}

func TestTake(t *testing.T) {
	for _, most := range []int{1, 2, 3, api.MaxMessages} {
		for i := range most {
			var l List
			l.Put(numbered(0, most)...)
			if m := l.Take(i); m.No != i {
				t.Errorf("%d of %d taken out: %v", i, most, m)
			}
			want := append(numbered(0, i), numbered(i+1, most)...)
			if !slices.Equal(l, want) {
				t.Errorf("%d of %d taken out, left: %v", i, most, l)
			}
			l.Put(numbered(100, 102)...)
			want = append(want, numbered(100, 102)...)
			if !slices.Equal(l, want[:min(len(want), api.MaxMessages)]) {
				t.Errorf("%d of %d taken out, and two put: %v", i, most, l)
			}
		}
	}
}

func TestCopy(t *testing.T) {
	for most := range api.MaxMessages + 1 {
		var l List
		l.Put(numbered(0, most)...)
		c := l.Copy()
		if !slices.Equal(c, numbered(0, most)) {
			t.Errorf("copy of %d: %v", most, c)
		}
		all := c[:cap(c)]
		for i := range all {
			all[i].No = -1
		}
		l.Put(api.Message{No: most})
		if !slices.Equal(l, numbered(0, min(most+1, api.MaxMessages))) {
			t.Errorf("changed with its copy: %v", l)
		}
		for len(l) > 0 {
			l.Take(0)
		}
		for _, m := range all {
			if m.No != -1 {
				t.Errorf("a copy changed with the list: %v", all)
			}
		}
	}
}
