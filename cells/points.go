package cells

import (
	"slices"
	"strings"

	"tendril/api"
)

// Point is a new point.
func (h *Heap) Point() (int, error) {
	if h == nil {
		return 0, fault(api.ErrNil, -1)
	}
	n := len(h.points)
	h.points = append(h.points, api.Mark{Trail: len(h.trail), Top: h.Top()})
	return n, nil
}

// Points is how many there are.
func (h *Heap) Points() int { return len(h.self().points) }

// Undo brings the heap back to a point.
func (h *Heap) Undo(n int) error {
	if err := h.hasPoint(n); err != nil {
		return err
	}
	point := h.points[n]
	// Ahead of the cut: a word that goes back may stand above it.
	for _, s := range slices.Backward(h.trail[point.Trail:]) {
		h.block.lay(s.At, s.Old)
	}
	h.block.Cut(point.Top)
	h.trail, h.points = h.trail[:point.Trail], h.points[:n+1]
	return nil
}

// Release forgets points.
func (h *Heap) Release(n int) error {
	if err := h.hasPoint(n); err != nil {
		return err
	}
	h.points = h.points[:n]
	return nil
}

// Dump lays the heap open.
func (h *Heap) Dump() api.Dump {
	h = h.self()
	out := api.Dump{Words: h.block.Words(), Trail: slices.Clone(h.trail), Marks: slices.Clone(h.points)}
	for _, name := range h.table.All() {
		out.Names = append(out.Names, strings.Clone(name))
	}
	return out
}

// hasPoint is the fault for which a change is refused that asks for a point.
func (h *Heap) hasPoint(n int) error {
	if h == nil {
		return fault(api.ErrNil, -1)
	}
	if n < 0 || n >= len(h.points) {
		return fault(api.ErrPoint, n)
	}
	return nil
}
