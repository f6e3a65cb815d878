package glean

import (
	"fmt"
	"slices"

	"glean/api"
)

// shadow says what comes of calls by the words of P5 to P7, in its own way.
type shadow struct {
	p     api.Program
	room  int
	tasks [][]api.Task
	asked []int // how many Requests a worker has sent: no answer comes
	kept  map[string]int
	sent  []api.Message // all that was sent ever
	way   []api.Message // all that is on its way
	over  bool
}

func newShadow(p api.Program, room, workers int) *shadow {
	s := &shadow{p: p, room: room, tasks: make([][]api.Task, workers), asked: make([]int, workers), kept: map[string]int{}}
	s.tasks[0] = []api.Task{{Kind: p.Kind, Arg: p.Arg}}
	return s
}

func (s *shadow) isWorker(w int) bool {
	return w >= 0 && w < len(s.tasks)
}

func (s *shadow) put(m api.Message) {
	s.way = append(s.way, m)
	s.way = s.way[:min(len(s.way), api.MaxMessages)]
}

func (s *shadow) send(m api.Message) {
	m.No = 1
	for _, old := range s.sent {
		if old.From == m.From && old.To == m.To {
			m.No++
		}
	}
	s.sent = append(s.sent, m)
	s.put(m)
}

func (s *shadow) work(w int) api.Errno {
	if s.over {
		return api.ErrOverflow
	}
	if !s.isWorker(w) {
		return api.ErrWorker
	}
	last := len(s.tasks[w]) - 1
	if last < 0 {
		return api.ErrIdle
	}
	task := s.tasks[w][last]
	k := s.p.Kinds[task.Kind]
	next := slices.Clone(s.tasks[w][:last])
	for i, kid := range k.Kids {
		if kid.Less <= task.Arg {
			next = append(next, api.Task{ID: fmt.Sprint(task.ID, i), Kind: kid.Kind, Arg: task.Arg - kid.Less})
		}
	}
	if len(next) > s.room {
		s.over = true
		return api.ErrOverflow
	}
	s.tasks[w] = next
	v := api.Value{ID: task.ID, V: k.A*task.Arg + k.B}
	if w == 0 {
		s.kept[v.ID] = v.V
	} else {
		s.send(api.Message{From: w, Kind: api.Result, V: v})
	}
	return api.OK
}

func (s *shadow) steal(w, victim int) api.Errno {
	switch {
	case s.over:
		return api.ErrOverflow
	case !s.isWorker(w) || !s.isWorker(victim) || w == victim:
		return api.ErrWorker
	case len(s.tasks[w]) > 0 || s.asked[w] > 0:
		return api.ErrBusy
	}
	s.asked[w]++
	s.send(api.Message{From: w, To: victim, Kind: api.Request})
	return api.OK
}

// onMessage does something with a message, if there is one of that number.
func (s *shadow) onMessage(i int, do func()) api.Errno {
	switch {
	case s.over:
		return api.ErrOverflow
	case i < 0 || i >= len(s.way):
		return api.ErrMessage
	}
	do()
	return api.OK
}

func (s *shadow) drop(i int) api.Errno {
	return s.onMessage(i, func() { s.way = append(slices.Clone(s.way[:i]), s.way[i+1:]...) })
}

func (s *shadow) twice(i int) api.Errno {
	return s.onMessage(i, func() { s.put(s.way[i]) })
}

// tick knows of nothing that it has come, so that the oldest thing of each link is its first one.
func (s *shadow) tick(w int) api.Errno {
	switch {
	case s.over:
		return api.ErrOverflow
	case !s.isWorker(w):
		return api.ErrWorker
	}
	for other := range s.tasks {
		for _, m := range s.sent {
			if m.From == w && m.To == other && m.No == 1 {
				s.put(m)
			}
		}
	}
	return api.OK
}

// same holds a run against its shadow.
func (s *shadow) same(r *Run) bool {
	for w, want := range s.tasks {
		if l, e := r.Tasks(w); !slices.Equal(l, want) || e != api.OK {
			return false
		}
	}
	if len(r.kept) != len(s.kept) {
		return false
	}
	for _, v := range r.kept.List() {
		if old, ok := s.kept[v.ID]; !ok || old != v.V {
			return false
		}
	}
	l, e := r.Messages()
	return slices.Equal(l, s.way) && e == api.OK
}
