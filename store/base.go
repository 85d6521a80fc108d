package store

import (
	"iter"
	"slices"

	"tendril/api"
	"tendril/cells"
	"tendril/differ"
	"tendril/unify"
)

// base is the heap of a store with its disequalities. The heap is embedded here and not in Store itself, where its Bind and Merge, which wake no disequality, would be anybody's to call.
type base struct {
	*cells.Heap
	open   []*dif   // in the order in which they were told
	points [][]*dif // of each point those that were open when it was made
}

// dif is a disequality that sleeps on the variables of its verdict. Several points may have the same one, so it is never changed but by a slide, which all of them go through.
type dif struct {
	pair    [2]int
	verdict api.Verdict
}

// tell makes two cells one, if no disequality bars it.
func (h *base) tell(a, b int) (bool, error) {
	if len(h.open) > 0 {
		open, ok, err := h.tried(a, b)
		if !ok {
			return false, err
		}
		h.open = open
	}
	// Behind the trial and not in its stead, since its point would have more words trailed than the caller's points ask for.
	return unify.Unify(h.Heap, a, b)
}

// tried makes two cells one and goes back. It tells which disequalities are open behind that, and whether it may be.
func (h *base) tried(a, b int) ([]*dif, bool, error) {
	point, _ := h.Point()
	var open []*dif
	ok, err := unify.Unify(h.Heap, a, b)
	if ok {
		open, ok = h.woken()
	}
	h.Undo(point)
	h.Release(point)
	return open, ok, err
}

// woken is which of the disequalities are open still, as the terms are now; false, if the two of one have become one.
func (h *base) woken() ([]*dif, bool) {
	var out []*dif
	for _, d := range h.open {
		if still, _ := differ.Still(h.Heap, d.verdict); still {
			out = append(out, d)
			continue
		}
		verdict, _ := differ.Look(h.Heap, d.pair[0], d.pair[1])
		switch verdict.Kind {
		case api.DifSame:
			return nil, false
		case api.DifOpen:
			out = append(out, &dif{d.pair, verdict})
		}
	}
	return out, true
}

// forget drops the lists of the points from a number on.
func (h *base) forget(n int) { h.points = slices.Delete(h.points, n, len(h.points)) }

// all goes over the disequalities that are open now, then over those of the points from 0 on; one that several of these have comes several times.
func (h *base) all() iter.Seq[*dif] {
	return func(yield func(*dif) bool) {
		for _, list := range append([][]*dif{h.open}, h.points...) {
			for _, d := range list {
				if !yield(d) {
					return
				}
			}
		}
	}
}

// lost is the place of the first cell of a disequality that isn't kept; -1, if there is none.
func (h *base) lost(keep []bool) int {
	for d := range h.all() {
		for _, at := range d.pair {
			if !keep[at] {
				return at
			}
		}
	}
	return -1
}

// move tells all disequalities anew behind a slide. Their variables were kept, since their cells reach them, now or at a point.
func (h *base) move(to []int) {
	moved := map[*dif]struct{}{}
	for d := range h.all() {
		if _, ok := moved[d]; ok {
			continue
		}
		moved[d] = struct{}{}
		for i, at := range d.pair {
			d.pair[i] = to[at]
		}
		for i, at := range d.verdict.Vars {
			d.verdict.Vars[i] = to[at]
		}
	}
}

// pairs is the cells of disequalities.
func pairs(list []*dif) [][2]int {
	var out [][2]int
	for _, d := range list {
		out = append(out, d.pair)
	}
	return out
}
