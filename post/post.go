// Package post: the messages that are on their way.
package post

import "glean/api"

// List is all messages on their way, in the order in which they were put there.
type List []api.Message

// Put puts messages on their way, at the end. Those that find the list full are lost.
func (l *List) Put(ms ...api.Message) {
	for _, m := range ms {
		if len(*l) < api.MaxMessages {
			*l = append(*l, m)
		}
	}
}
