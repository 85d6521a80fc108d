package collect

import (
	"tendril/api"
	"tendril/word"
)

// marked is which words are wanted, as far as they are found.
type marked struct {
	wanted []bool // of each place
	found  []int  // the places that are wanted, as they were found
}

// search finds all words that are wanted.
func search(d api.Dump, roots []int) *marked {
	m := &marked{wanted: make([]bool, len(d.Words))}
	m.mark(roots...)
	m.markPairs(d.Difs)
	for _, point := range d.Marks {
		m.markPairs(point.Difs)
	}
	earlier := byPlace(d)
	// The list grows as it is gone through.
	for i := 0; i < len(m.found); i++ {
		at := m.found[i]
		m.markReached(at, d.Words[at])
		for _, w := range earlier[at] {
			m.markReached(at, w)
		}
	}
	return m
}

// byPlace is of each place the words that the trail has of it.
func byPlace(d api.Dump) [][]uint64 {
	out := make([][]uint64, len(d.Words))
	for _, s := range d.Trail {
		out[s.At] = append(out[s.At], s.Old)
	}
	return out
}

func (m *marked) mark(places ...int) {
	for _, at := range places {
		if !m.wanted[at] {
			m.wanted[at] = true
			m.found = append(m.found, at)
		}
	}
}

func (m *marked) markPairs(pairs [][2]int) {
	for _, pair := range pairs {
		m.mark(pair[0], pair[1])
	}
}

// markReached marks what a word reaches, taken as the word at a place.
func (m *marked) markReached(at int, w uint64) {
	if place, tells := word.Place(w); tells {
		m.mark(place)
	}
	_, arity, _ := word.Head(w)
	for i := range arity {
		m.mark(at + 1 + i)
	}
}
