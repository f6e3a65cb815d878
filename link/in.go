package link

import "glean/api"

// In is the end of a link at which things arrive.
type In struct {
	came int                 // the number up to which all has come
	kept map[int]api.Message // what arrived ahead of something that hasn't come, by its number
}

// NewIn is the end of a link on which nothing has come.
func NewIn() *In {
	return &In{kept: map[int]api.Message{}}
}

// Came is the number up to which all has come.
func (n *In) Came() int {
	return n.came
}

// Arrive lets a thing arrive, and tells all that has come by that, by rising numbers: nothing, if the thing has come already or something ahead of it is missing.
func (n *In) Arrive(thing api.Message) []api.Message {
	if ahead := thing.No - n.next(); 0 <= ahead && ahead < api.Window {
		n.kept[thing.No] = thing
	}
	return n.release()
}

// next is the number of what has to come next.
func (n *In) next() int {
	return n.came + 1
}

// release lets what is kept come, as long as each has the next number.
func (n *In) release() []api.Message {
	var all []api.Message
	for {
		thing, ok := n.kept[n.next()]
		if !ok {
			return all
		}
		delete(n.kept, thing.No)
		n.came = thing.No
		all = append(all, thing)
	}
}
