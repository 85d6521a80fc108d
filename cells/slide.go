package cells

import (
	"slices"

	"tendril/api"
	"tendril/word"
)

// Slide takes words out.
func (h *Heap) Slide(keep []bool) ([]int, error) {
	if h == nil {
		return nil, fault(api.ErrNil, -1)
	}
	if len(keep) != h.Top() {
		return nil, fault(api.ErrKeep, len(keep))
	}
	if at := h.torn(keep); at >= 0 {
		return nil, fault(api.ErrKeep, at)
	}
	below := counted(keep)
	h.slideTrail(keep, below)
	h.slideWords(keep, below)
	to := below[:len(keep)]
	for at, kept := range keep {
		if !kept {
			to[at] = -1
		}
	}
	return to, nil
}

// torn is the first place that is kept and whose word, as it is or as the trail has it, reaches a word that isn't kept; -1, if there is none.
func (h *Heap) torn(keep []bool) int {
	dropped := func(at int) bool { return !keep[at] }
	first := -1
	look := func(at int, w uint64) {
		if keep[at] && (first < 0 || at < first) && slices.ContainsFunc(reached(at, w), dropped) {
			first = at
		}
	}
	for at, w := range h.block.Words() {
		look(at, w)
	}
	for _, s := range h.trail {
		look(s.At, s.Old)
	}
	return first
}

// slideTrail drops entries whose places aren't kept and tells the others anew, and the points with them.
func (h *Heap) slideTrail(keep []bool, below []int) {
	var stays []bool
	var trail []api.Saved
	for _, s := range h.trail {
		stays = append(stays, keep[s.At])
		if keep[s.At] {
			trail = append(trail, api.Saved{At: below[s.At], Old: moved(s.Old, below)})
		}
	}
	h.trail = trail
	ahead := counted(stays)
	for i, p := range h.points {
		h.points[i] = api.Mark{Trail: ahead[p.Trail], Top: below[p.Top]}
	}
}

// slideWords brings those words together that are kept.
func (h *Heap) slideWords(keep []bool, below []int) {
	var words []uint64
	for at, w := range h.block.Words() {
		if keep[at] {
			words = append(words, moved(w, below))
		}
	}
	// The arena takes them: they tell words that are kept.
	h.block.Fill(words)
}

// counted is for each entry, and for the end, how many ahead of it are true.
func counted(list []bool) []int {
	out := make([]int, len(list)+1)
	for i, yes := range list {
		out[i+1] = out[i]
		if yes {
			out[i+1]++
		}
	}
	return out
}

// moved is a word with the place that it tells told anew.
func moved(w uint64, below []int) uint64 {
	place, tells := word.Place(w)
	if !tells {
		return w
	}
	return packed(word.Tag(w), below[place])
}
