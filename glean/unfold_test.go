package glean

import (
	"fmt"
	"math"
	"reflect"
	"slices"
	"strings"
	"testing"

	"glean/api"
)

func ExampleUnfold() {
	p := api.Program{
		Kinds: []api.Kind{{A: 2, B: 1, Kids: []api.Kid{{Kind: 0, Less: 1}, {Kind: 0, Less: 2}}}},
		Kind:  0,
		Arg:   2,
	}
	values, e := Unfold(p)
	fmt.Println(e == api.OK)
	for _, v := range values {
		fmt.Printf("%q %d\n", v.ID, v.V)
	}
	// Output:
	// true
	// "" 5
	// "0" 3
	// "00" 1
	// "1" 1
}

// sized has 1 task, 127 and 63 below it, and a line of 13 - less: 204 - less in all.
func sized(less int) api.Program {
	double := api.Kind{A: 1, Kids: []api.Kid{{Kind: 0, Less: 1}, {Kind: 0, Less: 1}}}
	line := api.Kind{A: 1, Kids: []api.Kid{{Kind: 1, Less: 1}}}
	first := api.Kind{A: 1, Kids: []api.Kid{{Kind: 0, Less: 6}, {Kind: 0, Less: 7}, {Kind: 1, Less: less}}}
	return api.Program{Kinds: []api.Kind{double, line, first}, Kind: 2, Arg: 12}
}

// widest has the greatest tree that a program may have.
func widest() api.Program {
	k := api.Kind{A: 1, Kids: []api.Kid{{Less: 1}, {Less: 1}, {Less: 1}}}
	return api.Program{Kinds: []api.Kind{k}, Arg: api.MaxArg}
}

func TestP3Examples(t *testing.T) {
	example := api.Program{Kinds: []api.Kind{{A: 2, B: 1, Kids: []api.Kid{{Kind: 0, Less: 1}, {Kind: 0, Less: 2}}}}, Arg: 2}
	mixed := api.Program{Kinds: []api.Kind{
		{A: 7, B: -3, Kids: []api.Kid{{Kind: 1, Less: 9}, {Kind: 2, Less: 2}, {Kind: 1, Less: 1}}},
		{A: -1000, B: 1000},
		{A: 0, B: 4, Kids: []api.Kid{{Kind: 0, Less: 1}}},
	}, Arg: 5}
	for _, c := range []struct {
		p    api.Program
		want []api.Value
	}{
		{example, []api.Value{{ID: "", V: 5}, {ID: "0", V: 3}, {ID: "00", V: 1}, {ID: "1", V: 1}}},
		{mixed, []api.Value{{ID: "", V: 32}, {ID: "1", V: 4}, {ID: "10", V: 11}, {ID: "101", V: 4}, {ID: "102", V: 0}, {ID: "2", V: -3000}}},
		{api.Program{Kinds: []api.Kind{{A: 1000, B: 1000}}, Arg: 12}, []api.Value{{V: 13000}}},
		{api.Program{Kinds: []api.Kind{{A: -1000, B: -1000, Kids: []api.Kid{}}}, Arg: 12}, []api.Value{{V: -13000}}},
		{api.Program{Kinds: make([]api.Kind, 5), Kind: 4}, []api.Value{{}}},
	} {
		if got, e := Unfold(c.p); !slices.Equal(got, c.want) || e != api.OK {
			t.Errorf("Unfold(%v) = %v, %d, want %v", c.p, got, e, c.want)
		}
	}
}

// A kid whose Less is the argument has a child, with argument 0; one whose Less is one more has none.
func TestP3LessAtArgument(t *testing.T) {
	for less := 1; less <= api.MaxLess; less++ {
		p := api.Program{Kinds: []api.Kind{{B: 1, Kids: []api.Kid{{Kind: 1, Less: less}}}, {A: 1, B: 2}}}
		p.Arg = less
		if got, e := Unfold(p); !slices.Equal(got, []api.Value{{ID: "", V: 1}, {ID: "0", V: 2}}) || e != api.OK {
			t.Errorf("Less %d at its argument: %v, %d", less, got, e)
		}
		p.Arg = less - 1
		if got, e := Unfold(p); !slices.Equal(got, []api.Value{{ID: "", V: 1}}) || e != api.OK {
			t.Errorf("Less %d above its argument: %v, %d", less, got, e)
		}
	}
}

func TestP3Size(t *testing.T) {
	for less, want := range map[int]int{5: 199, 4: 200} {
		if got, e := Unfold(sized(less)); len(got) != want || e != api.OK {
			t.Errorf("%d tasks: %d values, %d", want, len(got), e)
		}
	}
	for name, p := range map[string]api.Program{"201 tasks": sized(3), "202 tasks": sized(2), "most tasks": widest()} {
		if got, e := Unfold(p); len(got) != 0 || e != api.ErrLarge {
			t.Errorf("%s: %d values, %d, want ErrLarge", name, len(got), e)
		}
	}
}

// edges are the numbers around all bounds of a program, and those at which sums of them wrap round.
func edges() []int {
	return []int{math.MinInt, math.MinInt + 1, -1001, -1000, -999, -2, -1, 0, 1, 2, 3, 4, 5, 6, 8, 9, 10, 11, 12, 13, 999, 1000, 1001, math.MaxInt - 1, math.MaxInt}
}

func TestP3Bounds(t *testing.T) {
	for _, c := range []struct {
		name      string
		low, high int
		set       func(p *api.Program, n int)
	}{
		{"A", -1000, 1000, func(p *api.Program, n int) { p.Kinds[2].A = n }},
		{"B", -1000, 1000, func(p *api.Program, n int) { p.Kinds[2].B = n }},
		{"A of a kind of no task", -1000, 1000, func(p *api.Program, n int) { p.Kind, p.Kinds[2].A = 1, n }},
		{"Kind of a kid", 0, 2, func(p *api.Program, n int) { p.Arg, p.Kinds[2].Kids[1].Kind = 3, n }},
		{"Less of a kid", 1, 9, func(p *api.Program, n int) { p.Arg, p.Kinds[2].Kids[2].Less = 3, n }},
		{"Kind", 0, 2, func(p *api.Program, n int) { p.Arg, p.Kind = 3, n }},
		{"Arg", 0, 12, func(p *api.Program, n int) { p.Arg = n }},
	} {
		for _, n := range edges() {
			p := sized(4)
			c.set(&p, n)
			want := api.OK
			if n < c.low || n > c.high {
				want = api.ErrProgram
			}
			if got, e := Unfold(p); e != want || (len(got) > 0) != (e == api.OK) {
				t.Errorf("%s %d: %d values, %d, want %d", c.name, n, len(got), e, want)
			}
		}
	}
}

func TestP3Lists(t *testing.T) {
	for kinds := range 8 {
		want := api.OK
		if kinds == 0 || kinds > api.MaxKinds {
			want = api.ErrProgram
		}
		if got, e := Unfold(api.Program{Kinds: make([]api.Kind, kinds)}); e != want || (len(got) > 0) != (e == api.OK) {
			t.Errorf("%d kinds: %v, %d, want %d", kinds, got, e, want)
		}
	}
	for kids := range 6 {
		want := api.OK
		if kids > api.MaxKids {
			want = api.ErrProgram
		}
		k := api.Kind{Kids: slices.Repeat([]api.Kid{{Less: 1}}, kids)}
		if got, e := Unfold(api.Program{Kinds: []api.Kind{k}, Arg: 1}); e != want || (e == api.OK && len(got) != 1+kids) {
			t.Errorf("%d kids: %v, %d, want %d", kids, got, e, want)
		}
	}
	if got, e := Unfold(api.Program{}); len(got) != 0 || e != api.ErrProgram {
		t.Errorf("nothing: %v, %d", got, e)
	}
}

func TestP1FirstError(t *testing.T) {
	p := widest()
	p.Kinds = append(p.Kinds, api.Kind{A: 1001})
	if got, e := Unfold(p); len(got) != 0 || e != api.ErrProgram {
		t.Errorf("too large and no program: %d values, %d, want ErrProgram", len(got), e)
	}
}

// numbers tells ever new numbers, the same ones in each test.
func numbers() func(below int) int {
	state := uint64(1)
	return func(below int) int {
		state = state*6364136223846793005 + 1442695040888963407
		return int(state>>33) % below
	}
}

// anyProgram has a number of edges in about every wild-th place; if wild is 0, nowhere: it is a program then.
func anyProgram(number func(below int) int, wild int) api.Program {
	pick := func(low, high int) int {
		if wild > 0 && number(wild) == 0 {
			return edges()[number(len(edges()))]
		}
		return low + number(high-low+1)
	}
	kinds := 1 + number(api.MaxKinds)
	mostLess := 1 + number(api.MaxLess) // else nearly all trees would be small
	p := api.Program{Kind: pick(0, kinds-1), Arg: pick(0, api.MaxArg)}
	for range kinds {
		k := api.Kind{A: pick(-1000, 1000), B: pick(-1000, 1000)}
		for range number(api.MaxKids + 1) {
			k.Kids = append(k.Kids, api.Kid{Kind: pick(0, kinds-1), Less: pick(1, mostLess)})
		}
		p.Kinds = append(p.Kinds, k)
	}
	return p
}

// byLevels answers as Unfold of a program, found by going through the tree level by level.
func byLevels(p api.Program) ([]api.Value, api.Errno) {
	tasks := []api.Task{{Kind: p.Kind, Arg: p.Arg}}
	var values []api.Value
	for i := 0; i < len(tasks); i++ {
		if i == api.MaxTasks {
			return nil, api.ErrLarge
		}
		t := tasks[i]
		k := p.Kinds[t.Kind]
		values = append(values, api.Value{ID: t.ID, V: k.A*t.Arg + k.B})
		for j, kid := range k.Kids {
			if kid.Less <= t.Arg {
				tasks = append(tasks, api.Task{ID: fmt.Sprint(t.ID, j), Kind: kid.Kind, Arg: t.Arg - kid.Less})
			}
		}
	}
	slices.SortFunc(values, func(a, b api.Value) int { return strings.Compare(a.ID, b.ID) })
	return values, api.OK
}

func TestP3ManyPrograms(t *testing.T) {
	number := numbers()
	seen := map[api.Errno]int{}
	for range 3000 {
		p := anyProgram(number, 0)
		want, wantErr := byLevels(p)
		seen[wantErr]++
		if got, e := Unfold(p); !slices.Equal(got, want) || e != wantErr {
			t.Fatalf("Unfold(%v) = %v, %d, want %v, %d", p, got, e, want, wantErr)
		}
	}
	if seen[api.OK] < 100 || seen[api.ErrLarge] < 100 {
		t.Errorf("too few of a sort: %v", seen)
	}
}

func TestP1AnyNumbers(t *testing.T) {
	number := numbers()
	seen := map[api.Errno]int{}
	for range 5000 {
		p := anyProgram(number, 20)
		got, e := Unfold(p)
		seen[e]++
		if (e == api.OK) != (len(got) > 0) || len(got) > api.MaxTasks {
			t.Fatalf("Unfold(%v) = %d values, %d", p, len(got), e)
		}
	}
	if len(seen) != 3 || seen[api.OK] < 100 || seen[api.ErrProgram] < 100 || seen[api.ErrLarge] < 100 {
		t.Errorf("answers: %v, want enough of OK, ErrProgram and ErrLarge, and no others", seen)
	}
}

// roomy is p with spare room behind each of its lists, and something in it.
func roomy(p api.Program) api.Program {
	q := api.Program{Kind: p.Kind, Arg: p.Arg}
	for _, k := range p.Kinds {
		kids := append(slices.Clone(k.Kids), api.Kid{Kind: -7, Less: -7}, api.Kid{Kind: -8, Less: -8})
		q.Kinds = append(q.Kinds, api.Kind{A: k.A, B: k.B, Kids: kids[:len(k.Kids)]})
	}
	q.Kinds = append(q.Kinds, api.Kind{A: -9})[:len(p.Kinds)]
	return q
}

// spread is p with all its lists as long as they have room.
func spread(p api.Program) api.Program {
	p.Kinds = slices.Clone(p.Kinds[:cap(p.Kinds)])
	for i, k := range p.Kinds {
		p.Kinds[i].Kids = slices.Clone(k.Kids[:cap(k.Kids)])
	}
	return p
}

func TestP2ProgramStays(t *testing.T) {
	broken := sized(4)
	broken.Kinds[2].Kids[2].Less = 10
	for name, p := range map[string]api.Program{"200 tasks": sized(4), "too large": widest(), "no program": broken} {
		p = roomy(p)
		before := spread(p)
		Unfold(p)
		if after := spread(p); !reflect.DeepEqual(before, after) {
			t.Errorf("%s: %v became %v", name, before, after)
		}
	}
}

func TestP2ProgramIsNotKept(t *testing.T) {
	p := sized(4)
	got, _ := Unfold(p)
	want := slices.Clone(got)
	for i := range p.Kinds {
		clear(p.Kinds[i].Kids)
	}
	clear(p.Kinds)
	if !slices.Equal(got, want) {
		t.Error("an answer changed with the program that was handed in")
	}
	if got, e := Unfold(sized(4)); !slices.Equal(got, want) || e != api.OK {
		t.Errorf("after the first program was changed: %d values, %d", len(got), e)
	}
}

func TestP2AnswerIsNew(t *testing.T) {
	p := sized(4)
	first, _ := Unfold(p)
	second, _ := Unfold(p)
	want := slices.Clone(first)
	first = first[:cap(first)]
	for i := range first {
		first[i] = api.Value{ID: "other", V: -1}
	}
	third, e := Unfold(p)
	if !slices.Equal(second, want) || !slices.Equal(third, want) || e != api.OK {
		t.Error("an answer changed with another one")
	}
}
