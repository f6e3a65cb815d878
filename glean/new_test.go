package glean

import (
	"math"
	"reflect"
	"slices"
	"testing"

	"glean/api"
)

// example is the document's program.
func example() api.Program {
	return api.Program{Kinds: []api.Kind{{A: 2, B: 1, Kids: []api.Kid{{Kind: 0, Less: 1}, {Kind: 0, Less: 2}}}}, Arg: 2}
}

// start makes a run.
func start(t *testing.T, workers, room, way int, p api.Program) *Run {
	t.Helper()
	r, e := New(api.Config{Workers: workers, Room: room, Way: way}, p)
	if r == nil || e != api.OK {
		t.Fatalf("New: %d", e)
	}
	return r
}

// hasTasks holds a worker's tasks against their IDs.
func hasTasks(t *testing.T, r *Run, w int, want ...string) {
	t.Helper()
	l, e := r.Tasks(w)
	var got []string
	for _, task := range l {
		got = append(got, task.ID)
	}
	if !slices.Equal(got, want) || e != api.OK {
		t.Errorf("Tasks(%d) = %q, %d, want %q", w, got, e, want)
	}
}

func TestP4Bounds(t *testing.T) {
	for _, n := range append(edges(), 7, 19, 20, 21, 22) {
		for name, c := range map[string]struct {
			config    api.Config
			low, high int
		}{
			"Workers": {api.Config{Workers: n, Room: 3, Way: api.Ring}, 2, 5},
			"Room":    {api.Config{Workers: 2, Room: n, Way: api.Waves}, 1, 20},
			"Way":     {api.Config{Workers: 5, Room: 20, Way: n}, 1, 2},
		} {
			want := api.OK
			if n < c.low || n > c.high {
				want = api.ErrConfig
			}
			if r, e := New(c.config, example()); e != want || (r != nil) != (e == api.OK) {
				t.Errorf("%s %d: %v, %d, want %d", name, n, r, e, want)
			}
		}
	}
}

func TestP4FirstState(t *testing.T) {
	p := sized(4)
	for workers := 2; workers <= api.MaxWorkers; workers++ {
		for _, way := range []int{api.Ring, api.Waves} {
			r := start(t, workers, 1, way, p)
			if l, e := r.Tasks(0); !slices.Equal(l, []api.Task{{Kind: 2, Arg: 12}}) || e != api.OK {
				t.Errorf("%d workers: Tasks(0) = %v, %d", workers, l, e)
			}
			for w := 1; w < workers; w++ {
				hasTasks(t, r, w)
			}
			if l, e := r.Tasks(workers); len(l) != 0 || e != api.ErrWorker {
				t.Errorf("%d workers: Tasks(%d) = %v, %d", workers, workers, l, e)
			}
			if len(r.post) != 0 || len(r.kept) != 0 {
				t.Errorf("%d workers: %v on their way, %v kept at first", workers, r.post, r.kept)
			}
		}
	}
}

func TestP4Program(t *testing.T) {
	good := api.Config{Workers: 2, Room: 20, Way: api.Ring}
	broken := example()
	broken.Kinds[0].Kids[1].Less = 0
	both := widest()
	both.Kinds = append(both.Kinds, api.Kind{B: -1001})
	for name, c := range map[string]struct {
		p    api.Program
		want api.Errno
	}{
		"nothing":                 {api.Program{}, api.ErrProgram},
		"Less 0":                  {broken, api.ErrProgram},
		"no program and large":    {both, api.ErrProgram},
		"200 tasks":               {sized(4), api.OK},
		"201 tasks":               {sized(3), api.ErrLarge},
		"the most tasks":          {widest(), api.ErrLarge},
		"one task":                {api.Program{Kinds: []api.Kind{{}}}, api.OK},
		"a kind that isn't there": {api.Program{Kinds: []api.Kind{{}}, Kind: 1}, api.ErrProgram},
	} {
		if r, e := New(good, c.p); e != c.want || (r != nil) != (e == api.OK) {
			t.Errorf("%s: %v, %d, want %d", name, r, e, c.want)
		}
	}
}

func TestP1FirstErrorOfNew(t *testing.T) {
	for name, p := range map[string]api.Program{"no program": {}, "too large": widest(), "a program": example()} {
		for _, c := range []api.Config{{}, {Workers: 1, Room: 1, Way: 1}, {Workers: 2, Room: 0, Way: 1}, {Workers: 2, Room: 1, Way: 3}} {
			if r, e := New(c, p); r != nil || e != api.ErrConfig {
				t.Errorf("New(%v, %s) = %v, %d, want ErrConfig", c, name, r, e)
			}
		}
	}
}

// New refuses the programs that Unfold refuses, with the same errors.
func TestP4AsUnfold(t *testing.T) {
	number := numbers()
	seen := map[api.Errno]int{}
	for range 3000 {
		p := anyProgram(number, 30)
		_, want := Unfold(p)
		r, e := New(api.Config{Workers: 2 + number(4), Room: 1 + number(20), Way: 1 + number(2)}, p)
		seen[e]++
		if e != want || (r != nil) != (e == api.OK) {
			t.Fatalf("New of %v: %d, want %d", p, e, want)
		}
	}
	if seen[api.OK] < 100 || seen[api.ErrProgram] < 100 || seen[api.ErrLarge] < 100 {
		t.Errorf("too few of a sort: %v", seen)
	}
}

func TestP1AnyConfig(t *testing.T) {
	number := numbers()
	some := append(edges(), 20, 21)
	for range 3000 {
		c := api.Config{Workers: some[number(len(some))], Room: some[number(len(some))], Way: some[number(len(some))]}
		r, e := New(c, anyProgram(number, 30))
		if (r != nil) != (e == api.OK) {
			t.Fatalf("New(%v): %v, %d", c, r, e)
		}
		if r == nil {
			continue
		}
		for _, w := range some {
			r.Work(w)
			if l, e := r.Tasks(w); len(l) > c.Room || (e != api.OK && len(l) > 0) {
				t.Fatalf("Tasks(%d) = %v, %d", w, l, e)
			}
		}
	}
}

func TestP2NewLeavesItsProgram(t *testing.T) {
	for name, p := range map[string]api.Program{"200 tasks": sized(4), "too large": widest(), "no program": {Kinds: make([]api.Kind, 6)}} {
		p = roomy(p)
		before := spread(p)
		r, _ := New(api.Config{Workers: 3, Room: 20, Way: api.Ring}, p)
		for r != nil && r.Work(0) == api.OK {
		}
		if after := spread(p); !reflect.DeepEqual(before, after) {
			t.Errorf("%s: %v became %v", name, before, after)
		}
	}
}

func TestP2NewKeepsNoList(t *testing.T) {
	p := sized(4)
	r := start(t, 2, 20, api.Ring, p)
	for i := range p.Kinds {
		for j := range p.Kinds[i].Kids {
			p.Kinds[i].Kids[j] = api.Kid{Kind: math.MaxInt, Less: math.MinInt}
		}
		p.Kinds[i] = api.Kind{A: 5}
	}
	workAll(t, r)
	want, _ := Unfold(sized(4))
	if got := r.kept.List(); !slices.Equal(got, want) {
		t.Errorf("the run changed with the program: %v", got)
	}
}
