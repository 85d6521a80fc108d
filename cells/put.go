package cells

import (
	"strings"

	"tendril/api"
	"tendril/names"
	"tendril/word"
)

// table is the names of a heap.
type table struct{ *names.Table }

// with is a table with the names of those nodes that are met, too. New names come into a copy, since a table can't give back what a call that is refused has put in.
func (t table) with(g api.Graph, met []int) (table, error) {
	out := t
	for _, n := range met {
		name := g.Nodes[n].Name
		if _, ok := out.Find(name); ok || name == "" {
			continue
		}
		if out == t {
			out = table{t.Copy()}
		}
		// A fault tells the name, and may not hold memory of who asked.
		if _, err := out.Put(strings.Clone(name)); err != nil {
			return table{}, err
		}
	}
	return out, nil
}

// number is the number of a name that is in the table.
func (t table) number(name string) int {
	n, _ := t.Find(name)
	return n
}

// text is the name of a number, as new memory.
func (t table) text(n int) string {
	name, _ := t.Name(n)
	return strings.Clone(name)
}

// wanted is how many words a graph wants of which these nodes are met.
func wanted(g api.Graph, met []int) int {
	count := len(g.Roots)
	for _, n := range met {
		count += size(g.Nodes[n])
	}
	return count
}

// size is how many words a node has of its own: what is no variable and no compound stands in the cells that hold it.
func size(node api.Node) int {
	switch node.Kind {
	case api.KVar:
		return 1
	case api.KComp:
		return 1 + len(node.Args)
	}
	return 0
}

// lay puts a graph down in fresh words, from a place on; its answer is the places of the roots' cells.
func (h *Heap) lay(g api.Graph, met []int, first int) []int {
	places := make([]int, len(g.Nodes))
	next := first + len(g.Roots)
	for _, n := range met {
		places[n] = next
		next += size(g.Nodes[n])
	}
	var roots []int
	for i, r := range g.Roots {
		h.block.lay(first+i, h.cell(g.Nodes[r], places[r]))
		roots = append(roots, first+i)
	}
	for _, n := range met {
		// A variable's word is fresh: it refers to itself.
		if node := g.Nodes[n]; node.Kind == api.KComp {
			h.block.lay(places[n], h.functor(node))
			for i, a := range node.Args {
				h.block.lay(places[n]+1+i, h.cell(g.Nodes[a], places[a]))
			}
		}
	}
	return roots
}

// cell is the word of a cell that holds a node whose own words begin at a place.
func (h *Heap) cell(node api.Node, place int) uint64 {
	switch node.Kind {
	case api.KAtom:
		return packed(api.TagAtom, h.table.number(node.Name))
	case api.KInt:
		return packed(api.TagInt, node.Num)
	case api.KComp:
		return packed(api.TagStr, place)
	}
	return packed(api.TagRef, place)
}

func (h *Heap) functor(node api.Node) uint64 {
	w, _ := word.Fun(h.table.number(node.Name), len(node.Args))
	return w
}
