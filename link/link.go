// Package link: the way from one worker to another.
package link

import (
	"iter"

	"glean/api"
)

// Out is the end of a link at which things are sent.
type Out struct {
	sent int              // the number of what was sent last
	open chan api.Message // what isn't known to have come, the oldest first
}

// NewOut is the end of a link on which nothing was sent.
func NewOut() *Out {
	return &Out{open: make(chan api.Message, api.Window)}
}

// Send gives a thing the link's next number, keeps it as not yet known to have come, and tells the message that has to be put on its way.
func (o *Out) Send(thing api.Message) api.Message {
	o.sent++
	thing.No = o.sent
	o.keep(thing)
	return thing
}

// Oldest is what was sent first of all that isn't known to have come. It answers false if there is nothing.
func (o *Out) Oldest() (api.Message, bool) {
	for thing := range o.through(cap(o.open)) {
		return thing, true
	}
	return api.Message{}, false
}

// Known takes out all that has numbers up to this one: it is known to have come. An Ack that says less than another one that overtook it finds nothing.
func (o *Out) Known(no int) {
	for len(o.open) > 0 && o.first() <= no {
		<-o.open
	}
}

// first is the number of the oldest thing that isn't known to have come, if there is one: the numbers from there on to the last one have no gap.
func (o *Out) first() int {
	return o.sent - len(o.open) + 1
}

func (o *Out) keep(thing api.Message) {
	// A send to a channel without room would wait forever, and no bound is set to what isn't known to have come.
	if len(o.open) == cap(o.open) {
		o.widen()
	}
	o.open <- thing
}

func (o *Out) widen() {
	for range o.through(2 * cap(o.open)) {
	}
}

// through tells what isn't known to have come, the oldest first. A channel shows what it has only to whoever takes it out, so all of it goes on to a new channel, with the given room. The link is whole again when the loop has ended, not within it.
func (o *Out) through(room int) iter.Seq[api.Message] {
	return func(yield func(api.Message) bool) {
		next := make(chan api.Message, room)
		close(o.open)
		wanted := true
		for thing := range o.open {
			next <- thing
			// Whoever breaks off is told no more, but the rest has to go on too.
			wanted = wanted && yield(thing)
		}
		o.open = next
	}
}
