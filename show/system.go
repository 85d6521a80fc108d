package show

import (
	"strconv"

	"tendril/api"
	"tendril/bisim"
)

// system is a least graph with the numbers in the names by which its nodes are told.
type system struct {
	least  api.Graph
	named  []int
	number []int // of each variable and each named node: which one of its like it is, from 1 on; else 0
}

// systemOf is the system of a graph, or the fault for which that isn't good.
func systemOf(g api.Graph) (*system, error) {
	least, err := bisim.Quotient(g)
	if err != nil {
		return nil, err
	}
	named, err := bisim.Named(least)
	if err != nil {
		return nil, err
	}
	s := &system{least: least, named: named, number: make([]int, len(least.Nodes))}
	for i, n := range named {
		s.number[n] = i + 1
	}
	variables := 0
	for n, node := range least.Nodes {
		if node.Kind == api.KVar {
			variables++
			s.number[n] = variables
		}
	}
	return s, nil
}

func (s *system) terms() api.Terms {
	var out api.Terms
	for _, r := range s.least.Roots {
		out.Roots = append(out.Roots, s.told(r))
	}
	for _, n := range s.named {
		out.Eqs = append(out.Eqs, api.Eq{Name: s.told(n).Name, Right: s.whole(n)})
	}
	return out
}

// told is a node as it stands somewhere.
func (s *system) told(n int) api.Expr {
	node, letter := s.least.Nodes[n], "V"
	switch {
	case node.Kind == api.KComp && s.number[n] > 0:
		letter = "E"
		fallthrough
	case node.Kind == api.KVar:
		return api.Expr{Kind: api.KVar, Name: letter + strconv.Itoa(s.number[n])}
	}
	return s.whole(n)
}

// whole is an atom, an integer or a compound as what it is, not by a name. It comes to an end, since one edge alone leads to a compound without a name: a circle of such ones nothing would lead into.
func (s *system) whole(n int) api.Expr {
	node := s.least.Nodes[n]
	out := api.Expr{Kind: node.Kind, Name: node.Name, Num: node.Num}
	for _, a := range node.Args {
		out.Args = append(out.Args, s.told(a))
	}
	return out
}
