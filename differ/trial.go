package differ

import (
	"slices"

	"tendril/api"
	"tendril/cells"
	"tendril/unify"
)

// tried makes two cells one and goes back. It tells whether that can be, and the variables that hang on it.
func tried(h *cells.Heap, a, b int) (bool, []int) {
	// Ahead of the trial, behind which those that are bound are no longer to be seen.
	vars := variables(h, a, b)
	point, _ := h.Point()
	can, _ := unify.Unify(h, a, b)
	vars = hanging(h, vars)
	h.Undo(point)
	h.Release(point)
	return can, vars
}

// variables is the places of the free variables that are met from two cells.
func variables(h *cells.Heap, a, b int) []int {
	var vars []int
	met := map[int]struct{}{}
	todo := []int{a, b}
	// The list grows as it is gone through.
	for i := 0; i < len(todo); i++ {
		term, _ := h.Look(todo[i])
		if _, known := met[term.At]; known {
			continue
		}
		met[term.At] = struct{}{}
		if term.Kind == api.KVar {
			vars = append(vars, term.At)
		}
		todo = append(todo, term.Args...)
	}
	return vars
}

// hanging is which of the variables that were free don't stand for themselves alone any more, rising.
func hanging(h *cells.Heap, vars []int) []int {
	var out []int
	for _, at := range vars {
		if free(h, at) {
			continue
		}
		out = append(out, at)
		// The other one of two that became one hangs on it, too, though it is free still.
		if term, _ := h.Look(at); term.Kind == api.KVar {
			out = append(out, term.At)
		}
	}
	slices.Sort(out)
	return slices.Compact(out)
}

// free tells whether a variable of this very place is free.
func free(h *cells.Heap, at int) bool {
	term, _ := h.Look(at)
	return term.Kind == api.KVar && term.At == at
}
