// Package tree: what a program is, and the tree of its tasks.
package tree

import (
	"iter"
	"slices"
	"strconv"

	"glean/api"
)

// IsProgram tells whether p keeps to all bounds of a program. All else in this package is for programs only.
func IsProgram(p api.Program) bool {
	if !within(len(p.Kinds), 1, api.MaxKinds) {
		return false
	}
	for _, k := range p.Kinds {
		if !isKind(k, len(p.Kinds)) {
			return false
		}
	}
	return isNumber(p.Kind, len(p.Kinds)) && within(p.Arg, 0, api.MaxArg)
}

func isKind(k api.Kind, kinds int) bool {
	if !within(k.A, -api.MaxFactor, api.MaxFactor) || !within(k.B, -api.MaxFactor, api.MaxFactor) {
		return false
	}
	if len(k.Kids) > api.MaxKids {
		return false
	}
	for _, kid := range k.Kids {
		if !isNumber(kid.Kind, kinds) || !within(kid.Less, 1, api.MaxLess) {
			return false
		}
	}
	return true
}

func isNumber(kind, kinds int) bool {
	return within(kind, 0, kinds-1)
}

func within(n, low, high int) bool {
	return low <= n && n <= high
}

// Copy is a program that shares no list with p.
func Copy(p api.Program) api.Program {
	p.Kinds = slices.Clone(p.Kinds)
	for i := range p.Kinds {
		p.Kinds[i].Kids = slices.Clone(p.Kinds[i].Kids)
	}
	return p
}

// First is the task that a program begins with.
func First(p api.Program) api.Task {
	return api.Task{Kind: p.Kind, Arg: p.Arg}
}

// Children tells a task's children, in their order.
func Children(p api.Program, t api.Task) iter.Seq[api.Task] {
	return func(yield func(api.Task) bool) {
		for i, kid := range p.Kinds[t.Kind].Kids {
			if kid.Less > t.Arg {
				continue
			}
			// The number counts the kids that are left out too, so that an ID tells which kid it was.
			child := api.Task{ID: t.ID + strconv.Itoa(i), Kind: kid.Kind, Arg: t.Arg - kid.Less}
			if !yield(child) {
				return
			}
		}
	}
}

// Tasks tells all tasks of a program, each ahead of its children. The tree may be huge: whoever ranges over it may break off at any task, and no more of it is made.
func Tasks(p api.Program) iter.Seq[api.Task] {
	return func(yield func(api.Task) bool) {
		walk(p, First(p), yield)
	}
}

// walk answers false if yield wants no more, so that all walks above it end too. It ends since each child's argument is less than its parent's.
func walk(p api.Program, t api.Task, yield func(api.Task) bool) bool {
	if !yield(t) {
		return false
	}
	for child := range Children(p, t) {
		if !walk(p, child, yield) {
			return false
		}
	}
	return true
}

// Value is what a task comes to.
func Value(p api.Program, t api.Task) api.Value {
	k := p.Kinds[t.Kind]
	return api.Value{ID: t.ID, V: k.A*t.Arg + k.B}
}
