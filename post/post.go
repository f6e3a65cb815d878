// Package post: the messages that are on their way.
package post

import (
	"slices"

	"glean/api"
)

// List is all messages on their way, in the order in which they were put there. They are numbered from 0 on.
type List []api.Message

// Put puts messages on their way, at the end. Those that find the list full are lost.
func (l *List) Put(ms ...api.Message) {
	for _, m := range ms {
		if len(*l) < api.MaxMessages {
			*l = append(*l, m)
		}
	}
}

// Has tells whether a message has the number i.
func (l List) Has(i int) bool {
	return 0 <= i && i < len(l)
}

// Take takes the message with the number i, which the list has, out of it.
func (l *List) Take(i int) api.Message {
	m := (*l)[i]
	*l = slices.Delete(*l, i, i+1)
	return m
}

// Copy is all messages, in a list that is the caller's own.
func (l List) Copy() []api.Message {
	return slices.Clone(l)
}
