package solve_test

import (
	"slices"
	"strconv"

	"tendril/api"
)

// leastOf is the least graph of a good graph: nodes are parted by trees that are cut off deeper and deeper, and the classes are numbered as they are met.
func leastOf(g api.Graph) api.Graph {
	classes := classesOf(g.Nodes)
	var out api.Graph
	place := map[int]int{}
	var meet func(node int) int
	meet = func(node int) int {
		if at, ok := place[classes[node]]; ok {
			return at
		}
		m, at := g.Nodes[node], len(out.Nodes)
		place[classes[node]] = at
		out.Nodes = append(out.Nodes, api.Node{Kind: m.Kind, Name: m.Name, Num: m.Num})
		for _, arg := range m.Args {
			to := meet(arg)
			out.Nodes[at].Args = append(out.Nodes[at].Args, to)
		}
		return at
	}
	for _, r := range g.Roots {
		out.Roots = append(out.Roots, meet(r))
	}
	return out
}

// classesOf is for each node a number that it has in common with those that are alike to it.
func classesOf(list []api.Node) []int {
	now := make([]int, len(list))
	for count := 0; ; {
		known, next := map[string]int{}, make([]int, len(list))
		for i, m := range list {
			key := strconv.Itoa(m.Kind) + strconv.Quote(m.Name) + strconv.Itoa(m.Num)
			if m.Kind == kVar {
				key += "at " + strconv.Itoa(i)
			}
			for _, arg := range m.Args {
				key += " " + strconv.Itoa(now[arg])
			}
			if _, ok := known[key]; !ok {
				known[key] = len(known)
			}
			next[i] = known[key]
		}
		now = next
		if len(known) == count {
			return now
		}
		count = len(known)
	}
}

// allAlike tells whether the two of each pair are alike as they are.
func allAlike(list []api.Node, pairs [][2]int) bool {
	classes := classesOf(list)
	return !slices.ContainsFunc(pairs, func(pair [2]int) bool { return classes[pair[0]] != classes[pair[1]] })
}

// relation is which nodes must be one for the pairs to be so: the least relation that holds them, and with two nodes the turned ones, with two that have one in common the other two, and with two compounds their arguments. It tells, too, whether all that must be one can be.
func relation(list []api.Node, pairs [][2]int) ([][]bool, bool) {
	one := make([][]bool, len(list))
	for i := range list {
		one[i] = make([]bool, len(list))
		one[i][i] = true
	}
	for _, pair := range pairs {
		one[pair[0]][pair[1]] = true
	}
	can, again := true, true
	put := func(i, j int) {
		if !one[i][j] {
			one[i][j], again = true, true
		}
	}
	for again {
		again = false
		for i := range list {
			for j := range list {
				if !one[i][j] {
					continue
				}
				put(j, i)
				for k := range list {
					if one[j][k] {
						put(i, k)
					}
				}
				m, o := list[i], list[j]
				if m.Kind == kVar || o.Kind == kVar {
					continue
				}
				if m.Kind != o.Kind || m.Name != o.Name || m.Num != o.Num || len(m.Args) != len(o.Args) {
					can = false
					continue
				}
				for at := range m.Args {
					put(m.Args[at], o.Args[at])
				}
			}
		}
	}
	return one, can
}

// solved is what Solve must answer, and what Verdict must.
func solved(g api.Graph, pairs [][2]int) (api.Graph, bool, api.Verdict) {
	one, can := relation(g.Nodes, pairs)
	if !can {
		return api.Graph{}, false, api.Verdict{Kind: apart}
	}
	// The last of those that are one, and are no variables, stands for all.
	stands := func(i int) int {
		for j := len(g.Nodes) - 1; j >= 0; j-- {
			if one[i][j] && g.Nodes[j].Kind != kVar {
				return j
			}
		}
		return slices.Index(one[i], true)
	}
	all := func(list []int) []int {
		var out []int
		for _, i := range list {
			out = append(out, stands(i))
		}
		return out
	}
	h := api.Graph{Roots: all(g.Roots)}
	for _, m := range g.Nodes {
		m.Args = all(m.Args)
		h.Nodes = append(h.Nodes, m)
	}
	if allAlike(g.Nodes, pairs) {
		return leastOf(h), true, api.Verdict{Kind: same}
	}
	v := api.Verdict{Kind: open}
	for i, m := range g.Nodes {
		mine := func(j int) bool { return i != j && stands(j) == stands(i) }
		if m.Kind == kVar && (g.Nodes[stands(i)].Kind != kVar || slices.ContainsFunc(variables(g.Nodes), mine)) {
			v.Vars = append(v.Vars, i)
		}
	}
	return leastOf(h), true, v
}

func variables(list []api.Node) []int {
	var out []int
	for i, m := range list {
		if m.Kind == kVar {
			out = append(out, i)
		}
	}
	return out
}

// with is a graph whose variables, as they are numbered in vars, are given nodes of another; those of the other stand behind.
func with(g api.Graph, vars []int, given []int, others []api.Node) api.Graph {
	first := len(g.Nodes)
	put := func(i int) int {
		if k := slices.Index(vars, i); k >= 0 {
			return first + given[k]
		}
		return i
	}
	var out api.Graph
	for _, m := range g.Nodes {
		anew := api.Node{Kind: m.Kind, Name: m.Name, Num: m.Num}
		for _, arg := range m.Args {
			anew.Args = append(anew.Args, put(arg))
		}
		out.Nodes = append(out.Nodes, anew)
	}
	out.Nodes = beside(out.Nodes, others)
	for _, r := range g.Roots {
		out.Roots = append(out.Roots, put(r))
	}
	return out
}

// pairsWith is pairs, where variables are given nodes in the same way.
func pairsWith(g api.Graph, pairs [][2]int, vars []int, given []int) [][2]int {
	var out [][2]int
	for _, pair := range pairs {
		// Roots are put in just as the two of a pair are.
		h := with(of(g.Nodes, pair[0], pair[1]), vars, given, nil)
		out = append(out, [2]int{h.Roots[0], h.Roots[1]})
	}
	return out
}

// each goes through all rows of so many numbers below most, as long as it is told to go on.
func each(count, most int, do func(row []int) bool) bool {
	row := make([]int, count)
	for {
		if !do(row) {
			return false
		}
		at := 0
		for at < count && row[at] == most-1 {
			row[at] = 0
			at++
		}
		if at == count {
			return true
		}
		row[at]++
	}
}

// isInstance is what Instance must answer, by the chapter's words: all ways are tried to give nodes of t to the variables of p that are met. Others than these need not be, since a variable that is met stands where one of them does.
func isInstance(p, t api.Graph) bool {
	if len(p.Roots) != len(t.Roots) {
		return false
	}
	var vars []int
	seen := make([]bool, len(p.Nodes))
	var meet func(list []int)
	meet = func(list []int) {
		for _, i := range list {
			if !seen[i] {
				seen[i] = true
				meet(p.Nodes[i].Args)
			}
		}
	}
	meet(p.Roots)
	for _, i := range variables(p.Nodes) {
		if seen[i] {
			vars = append(vars, i)
		}
	}
	return !each(len(vars), max(1, len(t.Nodes)), func(given []int) bool {
		h := with(p, vars, given, t.Nodes)
		var pairs [][2]int
		for k, r := range h.Roots {
			pairs = append(pairs, [2]int{r, len(p.Nodes) + t.Roots[k]})
		}
		return !allAlike(h.Nodes, pairs)
	})
}

// goesInto is what Instance must answer, for greater graphs: both are gone through at once, and each variable of p is given what it is met with first.
func goesInto(p, t api.Graph) bool {
	if len(p.Roots) != len(t.Roots) {
		return false
	}
	classes := classesOf(t.Nodes)
	seen := map[[2]int]bool{}
	given := map[int]int{}
	var goes func(i, j int) bool
	goes = func(i, j int) bool {
		m, k := p.Nodes[i], t.Nodes[j]
		if m.Kind == kVar {
			class, ok := given[i]
			given[i] = classes[j]
			return !ok || class == classes[j]
		}
		if m.Kind != k.Kind || m.Name != k.Name || m.Num != k.Num || len(m.Args) != len(k.Args) {
			return false
		}
		if seen[[2]int{i, classes[j]}] {
			return true
		}
		seen[[2]int{i, classes[j]}] = true
		for at := range m.Args {
			if !goes(m.Args[at], k.Args[at]) {
				return false
			}
		}
		return true
	}
	for at := range p.Roots {
		if !goes(p.Roots[at], t.Roots[at]) {
			return false
		}
	}
	return true
}

// dice is a row of numbers that look scattered, and are the same each time.
type dice uint64

func (d *dice) below(n int) int {
	*d = *d*6364136223846793005 + 1442695040888963407
	x := uint64(*d)
	x ^= x >> 29
	x *= 0xbf58476d1ce4e5b9
	x ^= x >> 32
	return int(x % uint64(n))
}

func (d *dice) one(list ...string) string { return list[d.below(len(list))] }

// node is a node of a graph of so many; of few names, so that often two can be one.
func (d *dice) node(count int) api.Node {
	switch d.below(12) {
	case 0, 1, 2, 3:
		return v()
	case 4:
		return a(d.one("a", "a", "a", "b", "f"))
	case 5:
		return n(d.below(2))
	case 6:
		return c(d.one("f", "g"), d.below(count))
	case 7:
		out := c(d.one("f", "g", "h"))
		for range 1 + d.below(widest) {
			out.Args = append(out.Args, d.below(count))
		}
		return out
	}
	return c("f", d.below(count), d.below(count))
}

// graph is a good graph of at most so many nodes.
func (d *dice) graph(most int) api.Graph {
	var g api.Graph
	count := 1 + d.below(most)
	for range count {
		g.Nodes = append(g.Nodes, d.node(count))
	}
	for range d.below(4) {
		g.Roots = append(g.Roots, d.below(count))
	}
	return g
}

// pairs is some pairs of nodes of a graph of so many.
func (d *dice) pairs(count int) [][2]int {
	var out [][2]int
	for range d.below(4) {
		out = append(out, [2]int{d.below(count), d.below(count)})
	}
	return out
}

// shuffled is pairs in another order, some of them turned, some of them twice.
func (d *dice) shuffled(pairs [][2]int) [][2]int {
	out := slices.Clone(pairs)
	for range d.below(4) {
		if len(pairs) > 0 {
			out = append(out, pairs[d.below(len(pairs))])
		}
	}
	for i := range out {
		j := d.below(i + 1)
		out[i], out[j] = out[j], out[i]
		if d.below(2) == 0 {
			out[i][0], out[i][1] = out[i][1], out[i][0]
		}
	}
	return out
}

// moved is a graph with its nodes in another order, and where each of them stands.
func (d *dice) moved(g api.Graph) (api.Graph, []int) {
	to := make([]int, len(g.Nodes))
	for i := range to {
		j := d.below(i + 1)
		to[i], to[j] = to[j], i
	}
	out := api.Graph{Nodes: make([]api.Node, len(g.Nodes))}
	for i, m := range g.Nodes {
		anew := api.Node{Kind: m.Kind, Name: m.Name, Num: m.Num}
		for _, arg := range m.Args {
			anew.Args = append(anew.Args, to[arg])
		}
		out.Nodes[to[i]] = anew
	}
	for _, r := range g.Roots {
		out.Roots = append(out.Roots, to[r])
	}
	return out, to
}

// less is a graph some of whose nodes are variables instead, some of which are one; and now and then something else.
func (d *dice) less(g api.Graph) api.Graph {
	out := api.Graph{Roots: slices.Clone(g.Roots)}
	for _, m := range g.Nodes {
		switch d.below(12) {
		case 0, 1:
			m = v()
		case 2:
			if d.below(6) == 0 {
				m = d.node(len(g.Nodes))
			}
		}
		m.Args = slices.Clone(m.Args)
		out.Nodes = append(out.Nodes, m)
	}
	vars := variables(out.Nodes)
	other := func(i *int) {
		if out.Nodes[*i].Kind == kVar && d.below(12) == 0 {
			*i = vars[d.below(len(vars))]
		}
	}
	for i := range out.Nodes {
		for k := range out.Nodes[i].Args {
			other(&out.Nodes[i].Args[k])
		}
	}
	for k := range out.Roots {
		other(&out.Roots[k])
	}
	return out
}
