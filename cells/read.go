package cells

import "tendril/api"

// reading is a graph as it is read from the cells of a heap.
type reading struct {
	heap   *Heap
	terms  []uint64       // of each node the word by which its term is told
	number map[uint64]int // of each of these words its node
}

// read is the graph of what cells hold, in which each free variable, each place of a compound, and each atom and integer has one node.
func read(h *Heap, cells []int) api.Graph {
	r := &reading{heap: h, number: map[uint64]int{}}
	g := api.Graph{Roots: r.nodes(cells)}
	// The list grows as it is gone through.
	for n := 0; n < len(r.terms); n++ {
		c := h.told(r.terms[n])
		g.Nodes = append(g.Nodes, api.Node{Kind: c.Kind, Name: c.Name, Num: c.Num, Args: r.nodes(c.Args)})
	}
	return g
}

// nodes are the nodes of what cells hold; what is met for the first time gets the next one.
func (r *reading) nodes(cells []int) []int {
	var out []int
	for _, at := range cells {
		term := r.heap.block.term(at)
		n, ok := r.number[term]
		if !ok {
			n = len(r.terms)
			r.number[term] = n
			r.terms = append(r.terms, term)
		}
		out = append(out, n)
	}
	return out
}
