package solve

import "tendril/api"

// standing is the kind of a variable that nothing is given to. No node of a good graph is of it.
const standing = 0

// merge is nodes of which some have become one.
type merge struct {
	nodes []api.Node
	leads []int // of each node: one that it has become one with; itself, if it stands for all that have become one with it
}

// apart is nodes none of which has become one with another yet.
func apart(nodes []api.Node) *merge {
	m := &merge{nodes: nodes, leads: make([]int, len(nodes))}
	for n := range nodes {
		m.leads[n] = n
	}
	return m
}

// fixed is nodes that are numbered from first on, whose variables stand for themselves: each is like an atom that occurs nowhere else.
func fixed(nodes []api.Node, first int) []api.Node {
	var out []api.Node
	for n, node := range nodes {
		if node.Kind == api.KVar {
			node = api.Node{Kind: standing, Num: n}
		}
		var args []int
		for _, a := range node.Args {
			args = append(args, first+a)
		}
		node.Args = args
		out = append(out, node)
	}
	return out
}

// end is the node that stands for a node. Ways are made shorter as they are gone, since they may grow long.
func (m *merge) end(n int) int {
	for m.leads[n] != n {
		m.leads[n] = m.leads[m.leads[n]]
		n = m.leads[n]
	}
	return n
}

func (m *merge) ends(nodes []int) []int {
	var out []int
	for _, n := range nodes {
		out = append(out, m.end(n))
	}
	return out
}

// all makes the two of each pair one, and tells whether that can be.
func (m *merge) all(pairs [][2]int) bool {
	for _, pair := range pairs {
		if !m.one(pair[0], pair[1]) {
			return false
		}
	}
	return true
}

// one makes two nodes one, with all that has to be one for that, and tells whether that can be. It comes to an end, since two compounds become one before their arguments are looked at: each time there is one node less that stands for others.
func (m *merge) one(i, j int) bool {
	todo := [][2]int{{i, j}}
	for len(todo) > 0 {
		last := todo[len(todo)-1]
		todo = todo[:len(todo)-1]
		keep, drop := m.end(last[0]), m.end(last[1])
		if keep == drop {
			continue
		}
		if m.nodes[keep].Kind == api.KVar {
			keep, drop = drop, keep
		}
		// What is dropped is a variable wherever one of the two is; it has no arguments.
		if m.nodes[drop].Kind != api.KVar && unlike(m.nodes[keep], m.nodes[drop]) {
			return false
		}
		m.leads[drop] = keep
		for at, a := range m.nodes[drop].Args {
			todo = append(todo, [2]int{m.nodes[keep].Args[at], a})
		}
	}
	return true
}

// unlike tells whether two nodes that are no variables can never be one, whatever their arguments are.
func unlike(a, b api.Node) bool {
	return a.Kind != b.Kind || a.Name != b.Name || a.Num != b.Num || len(a.Args) != len(b.Args)
}

// graph is what roots have become.
func (m *merge) graph(roots []int) api.Graph {
	out := api.Graph{Roots: m.ends(roots)}
	for _, node := range m.nodes {
		node.Args = m.ends(node.Args)
		out.Nodes = append(out.Nodes, node)
	}
	return out
}

// hanging is the variables that don't stand for themselves alone: all that have become one with another node, be it a variable or not.
func (m *merge) hanging() []int {
	count := make([]int, len(m.nodes)) // of each node that stands for others: how many these are, with itself
	for n := range m.nodes {
		count[m.end(n)]++
	}
	var vars []int
	for n, node := range m.nodes {
		if node.Kind == api.KVar && count[m.end(n)] > 1 {
			vars = append(vars, n)
		}
	}
	return vars
}
