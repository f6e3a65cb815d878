// Package values: values that are kept, one of each ID.
package values

import (
	"maps"
	"slices"

	"glean/api"
)

// Set has each value under its ID. Make one by Set{}.
type Set map[string]int

// Keep puts values in. One that comes again takes no more room.
func (s Set) Keep(vs ...api.Value) {
	for _, v := range vs {
		s[v.ID] = v.V
	}
}

// List tells all values, by their IDs, in a list that is the caller's own.
func (s Set) List() []api.Value {
	l := make([]api.Value, 0, len(s))
	for _, id := range slices.Sorted(maps.Keys(s)) {
		l = append(l, api.Value{ID: id, V: s[id]})
	}
	return l
}
