package cells

import (
	"slices"

	"tendril/api"
	"tendril/arena"
	"tendril/word"
)

// block is the words of a heap.
type block struct{ *arena.Arena }

// word is the word at a place that is allocated.
func (b block) word(at int) uint64 {
	w, _ := b.Load(at)
	return w
}

// lay puts a word at a place; the arena refuses none of those that a heap makes, since they tell places that are allocated.
func (b block) lay(at int, w uint64) { b.Store(at, w) }

func (b block) isCell(at int) bool {
	w, err := b.Load(at)
	return err == nil && word.Tag(w) != api.TagFun && word.Tag(w) != api.TagFwd
}

// checked is the fault for which places are refused of which one is no cell's.
func (b block) checked(cells ...int) error {
	strange := func(at int) bool { return !b.isCell(at) }
	if i := slices.IndexFunc(cells, strange); i >= 0 {
		return fault(api.ErrCell, i)
	}
	return nil
}

// term is the one word by which the term of a cell is told: a free variable's own word, an atom, an integer, or a compound's place, all forwards gone. So cells with one such word hold the same.
func (b block) term(at int) uint64 {
	for {
		w := b.word(at)
		switch word.Tag(w) {
		case api.TagRef:
			if word.Value(w) == at {
				return w
			}
			fallthrough
		case api.TagStr:
			fallthrough
		case api.TagFwd:
			at = word.Value(w)
		case api.TagFun:
			return packed(api.TagStr, at)
		default:
			return w
		}
	}
}

// alike tells whether the words of two terms tell compounds of one functor.
func (b block) alike(one, other uint64) bool {
	if word.Tag(one) != api.TagStr || word.Tag(other) != api.TagStr {
		return false
	}
	return b.word(word.Value(one)) == b.word(word.Value(other))
}

// reachable is how many words are reachable from cells.
func (b block) reachable(cells []int) int {
	met := make([]bool, b.Top())
	var all []int
	meet := func(places []int) {
		for _, at := range places {
			if !met[at] {
				met[at] = true
				all = append(all, at)
			}
		}
	}
	meet(cells)
	// The list grows as it is gone through.
	for i := 0; i < len(all); i++ {
		meet(reached(all[i], b.word(all[i])))
	}
	return len(all)
}

// reached is the places of the words that a word at a place reaches.
func reached(at int, w uint64) []int {
	if place, ok := word.Place(w); ok {
		return []int{place}
	}
	var out []int
	_, arity, _ := word.Head(w)
	for i := range arity {
		out = append(out, at+1+i)
	}
	return out
}

// packed is a word of a tag and of a value that the tag can have.
func packed(tag, value int) uint64 {
	w, _ := word.Pack(tag, value)
	return w
}
