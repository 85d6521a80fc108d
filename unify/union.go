package unify

import (
	"tendril/api"
	"tendril/cells"
)

// term is what a cell holds, with that cell.
type term struct {
	api.Cell
	by int
}

// union is what has to be one, so that pairs of cells are. The heap is written when all of it is known: what can't be made one has no writes that must be taken back, and a write is trailed by the caller's points alone.
type union struct {
	heap *cells.Heap
	led  []term       // the variables and compounds that become one with another, in the order in which that was found
	to   map[int]term // of the place of each of these: that other one
	todo [][2]int     // cells that have to be one, and weren't held against each other yet
}

// join takes two cells for one, with all that follows from it, and tells whether that can be.
func (u *union) join(pair [2]int) bool {
	u.todo = append(u.todo[:0], pair)
	// The list grows as it is gone through.
	for i := 0; i < len(u.todo); i++ {
		if !u.meet(u.held(u.todo[i][0]), u.held(u.todo[i][1])) {
			return false
		}
	}
	return true
}

// meet takes two terms for one, and tells whether they can be, as far as one sees without their arguments.
func (u *union) meet(a, b term) bool {
	from, to := ordered(a, b)
	switch {
	case from.At == to.At && from.At >= 0:
		// They are one.
	case from.Kind == api.KVar:
		u.lead(from, to)
	case from.Kind == api.KComp && alike(from, to):
		// Ahead of the arguments: when these come back to the two, they are one, and nothing is met for ever.
		u.lead(from, to)
		fallthrough
	case alike(from, to):
		for i, arg := range from.Args {
			u.todo = append(u.todo, [2]int{arg, to.Args[i]})
		}
	default:
		return false
	}
	return true
}

// ordered is two terms, that one first which is led to the other: a variable to what is none, else the greater place to the lesser, as Bind and Merge do it.
func ordered(a, b term) (from, to term) {
	if a.Kind == b.Kind && a.At < b.At || a.Kind != api.KVar && b.Kind == api.KVar {
		return b, a
	}
	return a, b
}

// alike tells whether two terms that are no variables are the same but for their arguments.
func alike(a, b term) bool {
	return a.Kind == b.Kind && a.Name == b.Name && a.Num == b.Num && len(a.Args) == len(b.Args)
}

func (u *union) lead(from, to term) {
	u.led = append(u.led, from)
	u.to[from.At] = to
}

// held is what a cell holds, as far as it is known what becomes of it.
func (u *union) held(cell int) term {
	seen, _ := u.heap.Look(cell)
	return u.end(term{seen, cell})
}

// end is what becomes of a term. Ways are made shorter as they are gone, since they may grow long.
func (u *union) end(t term) term {
	for {
		next, ok := u.to[t.At]
		if !ok {
			return t
		}
		if after, ok := u.to[next.At]; ok {
			u.to[t.At] = after
		}
		t = next
	}
}

// write makes one in the heap what has to be. Each is led to its end at once: the ways there stay short, and the order of pairs makes no difference to the words.
func (u *union) write() {
	for _, t := range u.led {
		end := u.end(t)
		if t.Kind == api.KVar {
			u.heap.Bind(t.by, end.by)
		} else {
			u.heap.Merge(t.by, end.by)
		}
	}
}
