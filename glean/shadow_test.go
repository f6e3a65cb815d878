package glean

import (
	"fmt"
	"slices"

	"glean/api"
)

// shadow says what comes of calls by the words of P5 to P11, in its own way: mostly from all that was sent and has come ever.
type shadow struct {
	p       api.Program
	room    int
	rings   bool
	tasks   [][]api.Task
	waits   []bool // for an answer
	kept    map[string]int
	sent    []api.Message       // all that was sent ever
	came    []api.Message       // all that has come ever
	way     []api.Message       // all that is on its way
	arrived map[api.Message]int // what has come, or is kept
	known   map[[2]int]int      // by a link's beginning and end: up to which number it is known to have come
	white   []int               // how many work messages had come to each worker when it became white last
	own     []api.Message       // worker 0's own report of each round
	done    []string            // the tasks that were done, in their order
	over    bool
	end     bool // all is announced
}

func newShadow(p api.Program, c api.Config) *shadow {
	s := &shadow{p: p, room: c.Room, rings: c.Way == api.Ring}
	s.tasks, s.waits, s.white = make([][]api.Task, c.Workers), make([]bool, c.Workers), make([]int, c.Workers)
	s.kept, s.arrived, s.known = map[string]int{}, map[api.Message]int{}, map[[2]int]int{}
	s.tasks[0] = []api.Task{{Kind: p.Kind, Arg: p.Arg}}
	return s
}

func (s *shadow) isWorker(w int) bool {
	return w >= 0 && w < len(s.tasks)
}

func (s *shadow) put(m api.Message) {
	s.way = append(s.way, m)
	s.way = s.way[:min(len(s.way), api.MaxMessages)]
}

func (s *shadow) send(m api.Message) {
	m.No = 1
	for _, old := range s.sent {
		if old.From == m.From && old.To == m.To {
			m.No++
		}
	}
	s.sent = append(s.sent, m)
	s.put(m)
}

// stopped is the error of a run in which nothing changes any more.
func (s *shadow) stopped() api.Errno {
	if s.end {
		return api.ErrDone
	}
	if s.over {
		return api.ErrOverflow
	}
	return api.OK
}

func (s *shadow) work(w int) api.Errno {
	if e := s.stopped(); e != api.OK {
		return e
	}
	if !s.isWorker(w) {
		return api.ErrWorker
	}
	last := len(s.tasks[w]) - 1
	if last < 0 {
		return api.ErrIdle
	}
	task := s.tasks[w][last]
	k := s.p.Kinds[task.Kind]
	next := slices.Clone(s.tasks[w][:last])
	for i, kid := range k.Kids {
		if kid.Less <= task.Arg {
			next = append(next, api.Task{ID: fmt.Sprint(task.ID, i), Kind: kid.Kind, Arg: task.Arg - kid.Less})
		}
	}
	if len(next) > s.room {
		s.over = true
		return api.ErrOverflow
	}
	s.tasks[w] = next
	s.done = append(s.done, task.ID)
	v := api.Value{ID: task.ID, V: k.A*task.Arg + k.B}
	if w == 0 {
		s.kept[v.ID] = v.V
	} else {
		s.send(api.Message{From: w, Kind: api.Result, V: v})
	}
	return api.OK
}

func (s *shadow) steal(w, victim int) api.Errno {
	switch e := s.stopped(); {
	case e != api.OK:
		return e
	case !s.isWorker(w) || !s.isWorker(victim) || w == victim:
		return api.ErrWorker
	case len(s.tasks[w]) > 0 || s.waits[w]:
		return api.ErrBusy
	}
	s.waits[w] = true
	s.send(api.Message{From: w, To: victim, Kind: api.Request})
	return api.OK
}

// onMessage does something with a message, if there is one of that number.
func (s *shadow) onMessage(i int, do func()) api.Errno {
	switch e := s.stopped(); {
	case e != api.OK:
		return e
	case i < 0 || i >= len(s.way):
		return api.ErrMessage
	}
	do()
	return api.OK
}

func (s *shadow) deliver(i int) api.Errno {
	return s.onMessage(i, func() {
		m := s.way[i]
		s.way = append(slices.Clone(s.way[:i]), s.way[i+1:]...)
		if m.Kind == api.Ack {
			link := [2]int{m.To, m.From}
			s.known[link] = max(s.known[link], m.No)
			return
		}
		if m.No <= s.upTo(m.From, m.To)+api.Window {
			s.arrived[m]++
		}
		for s.comeNext(m.From, m.To) {
		}
		s.put(api.Message{From: m.To, To: m.From, No: s.upTo(m.From, m.To)})
	})
}

// upTo is how much has come on a link.
func (s *shadow) upTo(from, to int) int {
	return len(on(s.came, from, to))
}

// on are those of one link.
func on(all []api.Message, from, to int) []api.Message {
	return slices.DeleteFunc(slices.Clone(all), func(m api.Message) bool { return m.From != from || m.To != to })
}

// comeNext lets the next thing of a link come, if it has arrived.
func (s *shadow) comeNext(from, to int) bool {
	all, next := on(s.sent, from, to), s.upTo(from, to)
	if next == len(all) || s.arrived[all[next]] == 0 {
		return false
	}
	m := all[next]
	s.came = append(s.came, m)
	switch m.Kind {
	case api.Request:
		reply := api.Message{From: to, To: from, Kind: api.Deny}
		if len(s.tasks[to]) > 0 {
			reply.Kind, reply.T = api.Grant, s.tasks[to][0]
			s.tasks[to] = s.tasks[to][1:]
		}
		s.send(reply)
	case api.Grant:
		s.tasks[to] = append(slices.Clone(s.tasks[to]), m.T)
		s.waits[to] = false
	case api.Deny:
		s.waits[to] = false
	case api.Result:
		s.kept[m.V.ID] = m.V.V
	case api.Wave:
		report := s.report(to, m.Round)
		report.From = to
		s.send(report)
	}
	return true
}

// count tells how many of these are work messages from a worker, and how many are to it.
func count(all []api.Message, w int) (from, to int) {
	for _, m := range all {
		if m.Kind != api.Grant && m.Kind != api.Result {
			continue
		}
		if m.From == w {
			from++
		}
		if m.To == w {
			to++
		}
	}
	return from, to
}

func (s *shadow) drop(i int) api.Errno {
	return s.onMessage(i, func() { s.way = append(slices.Clone(s.way[:i]), s.way[i+1:]...) })
}

func (s *shadow) twice(i int) api.Errno {
	return s.onMessage(i, func() { s.put(s.way[i]) })
}

func (s *shadow) tick(w int) api.Errno {
	switch e := s.stopped(); {
	case e != api.OK:
		return e
	case !s.isWorker(w):
		return api.ErrWorker
	}
	for other := range s.tasks {
		for _, m := range s.sent {
			if m.From == w && m.To == other && m.No == s.known[[2]int{w, other}]+1 {
				s.put(m)
			}
		}
	}
	return api.OK
}

// of are those of one kind.
func of(all []api.Message, kind int) []api.Message {
	return slices.DeleteFunc(slices.Clone(all), func(m api.Message) bool { return m.Kind != kind })
}

// token is where the token is, and how it came there; nowhere, if it is on its way.
func (s *shadow) token() (at int, t api.Message) {
	sent, came := of(s.sent, api.Token), of(s.came, api.Token)
	switch {
	case !s.rings || len(sent) != len(came):
		return -1, t
	case len(came) == 0:
		return 0, t
	}
	t = came[len(came)-1]
	return t.To, t
}

// ahead is how many more work messages a worker has sent than came to it.
func (s *shadow) ahead(w int) int {
	sent, _ := count(s.sent, w)
	_, came := count(s.came, w)
	return sent - came
}

func (s *shadow) isBlack(w int) bool {
	_, came := count(s.came, w)
	return came > s.white[w]
}

func (s *shadow) makeWhite(w int) {
	_, s.white[w] = count(s.came, w)
}

func (s *shadow) pass(w int) api.Errno {
	if e := s.stopped(); e != api.OK {
		return e
	}
	if !s.isWorker(w) {
		return api.ErrWorker
	}
	at, t := s.token()
	if w == 0 || w != at || len(s.tasks[w]) > 0 {
		return api.ErrBusy
	}
	s.send(api.Message{From: w, To: w - 1, Kind: api.Token, Count: t.Count + s.ahead(w), Black: t.Black || s.isBlack(w)})
	s.makeWhite(w)
	return api.OK
}

func (s *shadow) check() api.Errno {
	if e := s.stopped(); e != api.OK {
		return e
	}
	if len(s.tasks[0]) > 0 {
		return api.ErrBusy
	}
	if s.rings {
		return s.checkRing()
	}
	return s.checkWaves()
}

func (s *shadow) checkRing() api.Errno {
	at, t := s.token()
	if at != 0 {
		return api.ErrBusy
	}
	if t.Kind == api.Token && !t.Black && !s.isBlack(0) && t.Count+s.ahead(0) == 0 {
		s.end = true
		return api.OK
	}
	s.makeWhite(0)
	s.send(api.Message{To: len(s.tasks) - 1, Kind: api.Token})
	return api.OK
}

func (s *shadow) checkWaves() api.Errno {
	rounds := len(s.own)
	if len(of(s.came, api.Report)) < rounds*(len(s.tasks)-1) {
		return api.ErrBusy
	}
	if rounds >= 2 {
		sentBefore, cameBefore, _ := s.round(rounds - 1)
		sent, came, idle := s.round(rounds)
		if sentBefore == cameBefore && sent == came && sent == sentBefore && idle {
			s.end = true
			return api.OK
		}
	}
	s.own = append(s.own, s.report(0, rounds+1))
	for w := 1; w < len(s.tasks); w++ {
		s.send(api.Message{To: w, Kind: api.Wave, Round: rounds + 1})
	}
	return api.OK
}

// round is what was told in one.
func (s *shadow) round(no int) (sent, came int, idle bool) {
	idle = true
	for _, m := range append(of(s.came, api.Report), s.own...) {
		if m.Round == no {
			sent, came, idle = sent+m.Sent, came+m.Came, idle && m.Idle
		}
	}
	return sent, came, idle
}

// report is what a worker tells in a round.
func (s *shadow) report(w, round int) api.Message {
	sent, _ := count(s.sent, w)
	_, came := count(s.came, w)
	return api.Message{Kind: api.Report, Round: round, Sent: sent, Came: came, Idle: len(s.tasks[w]) == 0}
}

// same holds a run against its shadow.
func (s *shadow) same(r *Run) bool {
	for w, want := range s.tasks {
		if l, e := r.Tasks(w); !slices.Equal(l, want) || e != api.OK {
			return false
		}
		sent, _ := count(s.sent, w)
		_, came := count(s.came, w)
		if own := r.workers[w]; own.sent != sent || own.came != came || own.black != s.isBlack(w) {
			return false
		}
	}
	if len(r.kept) != len(s.kept) {
		return false
	}
	for _, v := range r.kept.List() {
		if old, ok := s.kept[v.ID]; !ok || old != v.V {
			return false
		}
	}
	_, end, e := r.Announced()
	if end != s.end || e != api.OK {
		return false
	}
	l, e := r.Messages()
	return slices.Equal(l, s.way) && e == api.OK
}
