// Package link: the way from one worker to another.
package link

import "glean/api"

// Out is the end of a link at which things are sent.
type Out struct {
	sent int              // the number of what was sent last
	open chan api.Message // what isn't known to have come, the oldest first
}

// NewOut is the end of a link on which nothing was sent.
func NewOut() *Out {
	return &Out{open: make(chan api.Message, api.Window)}
}

// Send gives a thing the link's next number, keeps it as not yet known to have come, and tells the message that has to be put on its way.
func (o *Out) Send(thing api.Message) api.Message {
	o.sent++
	thing.No = o.sent
	o.keep(thing)
	return thing
}

func (o *Out) keep(thing api.Message) {
	// A send to a channel without room would wait forever, and no bound is set to what isn't known to have come.
	if len(o.open) == cap(o.open) {
		o.widen()
	}
	o.open <- thing
}

func (o *Out) widen() {
	wider := make(chan api.Message, 2*cap(o.open))
	close(o.open)
	for thing := range o.open {
		wider <- thing
	}
	o.open = wider
}
