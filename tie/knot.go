package tie

import (
	"strings"

	"tendril/api"
	"tendril/bisim"
)

// census is the names that occur, and how many other parts there are.
type census struct {
	names  []string       // in the order in which they occur for the first time
	number map[string]int // of each name: its place in names
	others int            // variables _, atoms, integers and compounds
}

// counted is the census of good terms and equations.
func counted(exprs []api.Expr, eqs []api.Eq) *census {
	c := &census{number: map[string]int{}}
	for _, e := range exprs {
		c.term(e)
	}
	for _, q := range eqs {
		c.name(q.Name)
		c.term(q.Right)
	}
	return c
}

func (c *census) term(e api.Expr) {
	if isNamed(e) {
		c.name(e.Name)
	} else {
		c.others++
	}
	for _, a := range e.Args {
		c.term(a)
	}
}

func (c *census) name(name string) {
	if _, known := c.number[name]; !known {
		c.number[name] = len(c.names)
		c.names = append(c.names, name)
	}
}

// knot is all that is written as one graph: first a node for each name, in the order of the census, then one for each other part.
type knot struct {
	*census
	nodes []api.Node
	leads []int // of each node: the one that it leads to; itself, if it stands for itself
	roots []int
}

// knotted is the knot of good terms and equations.
func knotted(c *census, exprs []api.Expr, eqs []api.Eq) *knot {
	k := &knot{census: c}
	for range c.names {
		k.add(api.Node{Kind: api.KVar})
	}
	for _, e := range exprs {
		k.roots = append(k.roots, k.lay(e))
	}
	for _, q := range eqs {
		k.bind(c.number[q.Name], k.lay(q.Right))
	}
	return k
}

func (k *knot) add(node api.Node) int {
	n := len(k.nodes)
	k.nodes = append(k.nodes, node)
	k.leads = append(k.leads, n)
	return n
}

// lay puts a term down, and is its node.
func (k *knot) lay(e api.Expr) int {
	switch {
	case isNamed(e):
		return k.number[e.Name]
	case e.Kind == api.KVar:
		return k.add(api.Node{Kind: api.KVar})
	}
	n := k.add(api.Node{Kind: e.Kind, Name: e.Name, Num: e.Num})
	var args []int
	for _, a := range e.Args {
		args = append(args, k.lay(a))
	}
	k.nodes[n].Args = args
	return n
}

// bind lets a name lead to its right side. Where that leads back to the name, the circle is left open here: the name stays the variable that all names of the circle stand for.
func (k *knot) bind(name, right int) {
	if k.end(right) != name {
		k.leads[name] = right
	}
}

// end is the node that a node stands for. Ways are made shorter as they are gone, since each name may lead to the next.
func (k *knot) end(n int) int {
	for k.leads[n] != n {
		k.leads[n] = k.leads[k.leads[n]]
		n = k.leads[n]
	}
	return n
}

func (k *knot) ends(nodes []int) []int {
	var out []int
	for _, n := range nodes {
		out = append(out, k.end(n))
	}
	return out
}

// least is the least graph, and the names that stand for something in it.
func (k *knot) least() (api.Graph, []api.Named, error) {
	g := api.Graph{Roots: k.ends(k.roots)}
	for _, node := range k.nodes {
		node.Args = k.ends(node.Args)
		g.Nodes = append(g.Nodes, node)
	}
	classes, err := bisim.Classes(g)
	if err != nil {
		return api.Graph{}, nil, err
	}
	least, err := bisim.Quotient(g)
	if err != nil {
		return api.Graph{}, nil, err
	}
	places := placed(g, least, classes)
	var named []api.Named
	for i, name := range k.names {
		if n, met := places[classes[k.end(i)]]; met {
			named = append(named, api.Named{Name: strings.Clone(name), Node: n})
		}
	}
	return least, named, nil
}

// placed is the node in the least graph of each class that is met.
func placed(g, least api.Graph, classes []int) map[int]int {
	// Of each node of the least graph one of g that is of its class. A node that is no root is an argument of one ahead of it, so that it is known when it is come to.
	like := make([]int, len(least.Nodes))
	for i, r := range least.Roots {
		like[r] = g.Roots[i]
	}
	places := map[int]int{}
	for n, node := range least.Nodes {
		places[classes[like[n]]] = n
		for i, a := range node.Args {
			like[a] = g.Nodes[like[n]].Args[i]
		}
	}
	return places
}

// isNamed tells whether a term is a variable with a name that others may have, too.
func isNamed(e api.Expr) bool { return e.Kind == api.KVar && e.Name != apart }
