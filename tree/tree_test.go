package tree

import (
	"math"
	"reflect"
	"slices"
	"testing"

	"glean/api"
)

// full is a program that has as much of everything as one may have.
func full() api.Program {
	p := api.Program{Kind: 4, Arg: 12}
	for range api.MaxKinds {
		p.Kinds = append(p.Kinds, api.Kind{A: 1000, B: -1000, Kids: []api.Kid{{Kind: 0, Less: 1}, {Kind: 4, Less: 9}, {Kind: 2, Less: 5}}})
	}
	return p
}

func TestIsProgramAtBounds(t *testing.T) {
	for name, change := range map[string]func(p *api.Program){
		"all at its most":   func(p *api.Program) {},
		"one kind":          func(p *api.Program) { p.Kinds, p.Kind = []api.Kind{{}}, 0 },
		"A at its least":    func(p *api.Program) { p.Kinds[4].A = -1000 },
		"A 0":               func(p *api.Program) { p.Kinds[4].A = 0 },
		"B at its most":     func(p *api.Program) { p.Kinds[4].B = 1000 },
		"B 0":               func(p *api.Program) { p.Kinds[4].B = 0 },
		"kids nil":          func(p *api.Program) { p.Kinds[4].Kids = nil },
		"kids empty":        func(p *api.Program) { p.Kinds[4].Kids = []api.Kid{} },
		"one kid":           func(p *api.Program) { p.Kinds[4].Kids = []api.Kid{{Kind: 4, Less: 1}} },
		"first kind 0":      func(p *api.Program) { p.Kind = 0 },
		"argument 0":        func(p *api.Program) { p.Arg = 0 },
		"a kid of its kind": func(p *api.Program) { p.Kinds[4].Kids[2].Kind = 4 },
	} {
		p := full()
		change(&p)
		if !IsProgram(p) {
			t.Errorf("%s: is a program", name)
		}
	}
}

func TestIsProgramPastBounds(t *testing.T) {
	for name, change := range map[string]func(p *api.Program, n int){
		"A":          func(p *api.Program, n int) { p.Kinds[4].A = n },
		"B":          func(p *api.Program, n int) { p.Kinds[4].B = n },
		"kid's kind": func(p *api.Program, n int) { p.Kinds[4].Kids[2].Kind = n },
		"kid's less": func(p *api.Program, n int) { p.Kinds[4].Kids[2].Less = n },
		"first kind": func(p *api.Program, n int) { p.Kind = n },
		"argument":   func(p *api.Program, n int) { p.Arg = n },
	} {
		past := map[string][]int{"A": {-1001, 1001}, "B": {-1001, 1001}, "kid's kind": {-1, 5}, "kid's less": {0, 10, -1}, "first kind": {-1, 5}, "argument": {-1, 13}}[name]
		for _, n := range append(past, math.MinInt, math.MinInt+1, math.MaxInt) {
			p := full()
			change(&p, n)
			if IsProgram(p) {
				t.Errorf("%s %d: is no program", name, n)
			}
		}
	}
}

func TestIsProgramOfLists(t *testing.T) {
	for name, change := range map[string]func(p *api.Program){
		"kinds nil":                      func(p *api.Program) { p.Kinds = nil },
		"kinds empty":                    func(p *api.Program) { p.Kinds = []api.Kind{} },
		"kinds nil, first kind -1":       func(p *api.Program) { p.Kinds, p.Kind = nil, -1 },
		"six kinds":                      func(p *api.Program) { p.Kinds = append(p.Kinds, api.Kind{}) },
		"four kids":                      func(p *api.Program) { p.Kinds[4].Kids = append(p.Kinds[4].Kids, api.Kid{Less: 1}) },
		"a fault in a kind of no task":   func(p *api.Program) { p.Kind, p.Arg, p.Kinds[3].A = 0, 0, 1001 },
		"a fault in a kid with no child": func(p *api.Program) { p.Arg, p.Kinds[4].Kids[1].Less = 0, 10 },
		"a kind fewer than kids name":    func(p *api.Program) { p.Kinds, p.Kind = p.Kinds[:4], 0 },
	} {
		p := full()
		change(&p)
		if IsProgram(p) {
			t.Errorf("%s: is no program", name)
		}
	}
}

func TestChildren(t *testing.T) {
	p := api.Program{Kinds: []api.Kind{
		{Kids: []api.Kid{{Kind: 1, Less: 3}, {Kind: 0, Less: 1}, {Kind: 2, Less: 2}}},
		{Kids: []api.Kid{{Kind: 0, Less: 1}}},
		{},
	}}
	for _, c := range []struct {
		of   api.Task
		want []api.Task
	}{
		{api.Task{ID: "", Kind: 0, Arg: 4}, []api.Task{{ID: "0", Kind: 1, Arg: 1}, {ID: "1", Kind: 0, Arg: 3}, {ID: "2", Kind: 2, Arg: 2}}},
		{api.Task{ID: "1", Kind: 0, Arg: 3}, []api.Task{{ID: "10", Kind: 1, Arg: 0}, {ID: "11", Kind: 0, Arg: 2}, {ID: "12", Kind: 2, Arg: 1}}},
		{api.Task{ID: "11", Kind: 0, Arg: 2}, []api.Task{{ID: "111", Kind: 0, Arg: 1}, {ID: "112", Kind: 2, Arg: 0}}},
		{api.Task{ID: "x", Kind: 0, Arg: 1}, []api.Task{{ID: "x1", Kind: 0, Arg: 0}}},
		{api.Task{ID: "0", Kind: 0, Arg: 0}, nil},
		{api.Task{ID: "2", Kind: 2, Arg: 12}, nil},
	} {
		if got := slices.Collect(Children(p, c.of)); !slices.Equal(got, c.want) {
			t.Errorf("children of %v: %v, want %v", c.of, got, c.want)
		}
	}
}

func TestTasks(t *testing.T) {
	p := api.Program{Kinds: []api.Kind{{Kids: []api.Kid{{Kind: 0, Less: 1}, {Kind: 0, Less: 2}}}}, Arg: 2}
	want := []api.Task{{Arg: 2}, {ID: "0", Arg: 1}, {ID: "00"}, {ID: "1"}}
	tasks := Tasks(p)
	for range 2 {
		if got := slices.Collect(tasks); !slices.Equal(got, want) {
			t.Errorf("tasks: %v, want %v", got, want)
		}
	}
}

func TestBreakOff(t *testing.T) {
	p := full()
	all := slices.Collect(Tasks(p))
	for stop := range 30 {
		var got []api.Task
		for task := range Tasks(p) {
			got = append(got, task)
			if len(got) == stop+1 {
				break
			}
		}
		if !slices.Equal(got, all[:stop+1]) {
			t.Errorf("broken off after %d: %v", stop+1, got)
		}
	}
	for child := range Children(p, First(p)) {
		if child.ID != "0" {
			t.Errorf("first child: %v", child)
		}
		break
	}
}

func TestValue(t *testing.T) {
	p := api.Program{Kinds: []api.Kind{{A: 2, B: 1}, {A: -1000, B: -1000}, {A: 1000, B: 1000}}}
	for _, c := range []struct {
		of   api.Task
		want int
	}{
		{api.Task{ID: "", Kind: 0, Arg: 2}, 5},
		{api.Task{ID: "0", Kind: 0, Arg: 0}, 1},
		{api.Task{ID: "01", Kind: 1, Arg: 12}, -13000},
		{api.Task{ID: "2", Kind: 2, Arg: 12}, 13000},
	} {
		if got := Value(p, c.of); got != (api.Value{ID: c.of.ID, V: c.want}) {
			t.Errorf("value of %v: %v, want %d", c.of, got, c.want)
		}
	}
}

func TestCopy(t *testing.T) {
	p := full()
	p.Kinds[1].Kids = nil
	c := Copy(p)
	if !reflect.DeepEqual(c, p) {
		t.Errorf("copy of %v: %v", p, c)
	}
	clear(p.Kinds[0].Kids)
	clear(p.Kinds)
	want := full()
	want.Kinds[1].Kids = nil
	if !reflect.DeepEqual(c, want) {
		t.Errorf("changed with what was copied: %v", c)
	}
}
