// Package tasks: the tasks of one worker.
package tasks

import (
	"iter"
	"slices"

	"glean/api"
)

// List is a worker's tasks, the oldest first, and how many it has room for.
type List struct {
	tasks []api.Task
	room  int
}

// New is a list with some room, and what it has at first.
func New(room int, first ...api.Task) *List {
	return &List{tasks: slices.Clone(first), room: room}
}

// Idle tells whether there is no task.
func (l *List) Idle() bool {
	return len(l.tasks) == 0
}

// All tells the tasks, the oldest first.
func (l *List) All() iter.Seq[api.Task] {
	return slices.Values(l.tasks)
}

// Youngest is the task that came last. It is for lists that are not idle.
func (l *List) Youngest() api.Task {
	return l.tasks[len(l.tasks)-1]
}

// Put puts tasks behind the others.
func (l *List) Put(ts ...api.Task) {
	l.tasks = append(l.tasks, ts...)
}

// TakeOldest takes the task that came first out of a list that is not idle.
func (l *List) TakeOldest() api.Task {
	t := l.tasks[0]
	l.tasks = slices.Delete(l.tasks, 0, 1)
	return t
}

// Replace puts children in the place of the youngest task, of a list that is not idle. It answers false, and changes nothing, if there is no room for them.
func (l *List) Replace(children iter.Seq[api.Task]) bool {
	others := l.tasks[:len(l.tasks)-1]
	born := slices.Collect(children)
	if len(others)+len(born) > l.room {
		return false
	}
	l.tasks = append(others, born...)
	return true
}
