package bisim

import (
	"slices"

	"tendril/api"
)

// partition is the nodes parted into classes that are split till no two unlike nodes are in one.
type partition struct {
	nodes  []int // class by class
	place  []int // of each node: where it stands in nodes
	class  []int // of each node
	first  []int // of each class: where it begins in nodes
	behind []int // of each class: where it ends
	marked []int // of each class: how many of its nodes are marked; they stand ahead of the others
}

// label is what a node says beside which nodes its arguments are.
type label struct {
	kind, num, args int
	variable        int // which one it is
	name            string
}

// refined is the partition of the nodes of a good graph into those that are alike.
func refined(nodes []api.Node) *partition {
	p := labelled(nodes)
	users := usersOf(nodes)
	// Each class parts all classes once. If it is split later on, the new class alone has to: nodes of one class have
	// their arguments either all in the old one or all outside, so that the new half parts them as the other would.
	for c := 0; c < len(p.first); c++ {
		// A list of its own, since the class may be split by itself.
		members := slices.Clone(p.nodes[p.first[c]:p.behind[c]])
		for _, usersAt := range users {
			p.part(members, usersAt)
		}
	}
	return p
}

// labelled is the partition of the nodes by their labels.
func labelled(nodes []api.Node) *partition {
	known := map[label]int{}
	var members [][]int
	for n, node := range nodes {
		l := labelOf(n, node)
		c, ok := known[l]
		if !ok {
			c = len(members)
			known[l] = c
			members = append(members, nil)
		}
		members[c] = append(members[c], n)
	}
	p := &partition{place: make([]int, len(nodes)), class: make([]int, len(nodes))}
	for _, list := range members {
		p.nodes = append(p.nodes, list...)
		p.enter(len(p.nodes)-len(list), len(p.nodes))
	}
	for at, n := range p.nodes {
		p.place[n] = at
	}
	return p
}

func labelOf(n int, node api.Node) label {
	l := label{kind: node.Kind, num: node.Num, args: len(node.Args), name: node.Name}
	if node.Kind == api.KVar {
		l.variable = n
	}
	return l
}

// usersOf is, for each place of an argument and each node, the compounds that have the node there.
func usersOf(nodes []api.Node) [][][]int {
	users := make([][][]int, api.MaxArity)
	for k := range users {
		users[k] = make([][]int, len(nodes))
	}
	for n, node := range nodes {
		for k, a := range node.Args {
			users[k][a] = append(users[k][a], n)
		}
	}
	return users
}

// part splits each class by whether its nodes have one of the members at the place that the users are of.
func (p *partition) part(members []int, usersAt [][]int) {
	var touched []int
	for _, m := range members {
		for _, n := range usersAt[m] {
			c := p.class[n]
			if p.marked[c] == 0 {
				touched = append(touched, c)
			}
			p.mark(n)
		}
	}
	for _, c := range touched {
		p.split(c)
	}
}

// mark puts a node that isn't marked behind the marked ones of its class.
func (p *partition) mark(n int) {
	c := p.class[n]
	at := p.first[c] + p.marked[c]
	other := p.nodes[at]
	p.nodes[p.place[n]], p.place[other] = other, p.place[n]
	p.nodes[at], p.place[n] = n, at
	p.marked[c]++
}

// split parts a class's marked nodes from the others, if there are others, and marks none any more.
func (p *partition) split(c int) {
	first, middle, behind := p.first[c], p.first[c]+p.marked[c], p.behind[c]
	p.marked[c] = 0
	if middle == behind {
		return
	}
	// The smaller part is the new class, so that a node comes into a new one only as often as its class is halved.
	if middle-first <= behind-middle {
		p.first[c] = middle
		p.enter(first, middle)
	} else {
		p.behind[c] = middle
		p.enter(middle, behind)
	}
}

// enter makes a new class of the nodes that stand there.
func (p *partition) enter(first, behind int) {
	for _, n := range p.nodes[first:behind] {
		p.class[n] = len(p.first)
	}
	p.first = append(p.first, first)
	p.behind = append(p.behind, behind)
	p.marked = append(p.marked, 0)
}
