package machine

import (
	"errors"
	"iter"
	"slices"

	"tendril/api"
	"tendril/collect"
)

// put puts a graph down; if there is no room, the store is compacted first.
func (r *run) put(g api.Graph) ([]int, error) {
	cells, err := r.store.Put(g)
	if errors.Is(err, api.ErrRoom) {
		r.compact()
		cells, err = r.store.Put(g)
	}
	var none *api.Fault
	if errors.Is(err, api.ErrRoom) && errors.As(err, &none) {
		return nil, &api.Fault{Code: api.ErrHeap, At: none.At, Cause: none}
	}
	return cells, err
}

// compact takes all words out that aren't wanted.
func (r *run) compact() {
	// No fault is met here: all of these are cells.
	places, _ := collect.Run(r.store, r.roots())
	for cells := range r.lists() {
		n := copy(cells, places)
		places = places[n:]
	}
}

// roots is the cells that are wanted.
func (r *run) roots() []int { return slices.Concat(slices.Collect(r.lists())...) }

// lists goes over the cells of the variables and those of each goal.
func (r *run) lists() iter.Seq[[]int] {
	return func(yield func([]int) bool) {
		if !yield(r.cells) {
			return
		}
		for _, g := range r.goals {
			if !yield(g.cells) {
				return
			}
		}
	}
}
