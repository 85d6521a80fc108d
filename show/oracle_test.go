package show_test

import (
	"slices"
	"strconv"
	"strings"

	"tendril/api"
	"tendril/parse"
)

// leastOf is the least graph of a good graph: nodes are parted by trees that are cut off deeper and deeper, and the classes are numbered as they are met.
func leastOf(g api.Graph) api.Graph {
	classes := classesOf(g)
	var out api.Graph
	place := map[int]int{}
	var meet func(node int) int
	meet = func(node int) int {
		if at, ok := place[classes[node]]; ok {
			return at
		}
		m, at := g.Nodes[node], len(out.Nodes)
		place[classes[node]] = at
		out.Nodes = append(out.Nodes, api.Node{Kind: m.Kind, Name: m.Name, Num: m.Num})
		for _, arg := range m.Args {
			to := meet(arg)
			out.Nodes[at].Args = append(out.Nodes[at].Args, to)
		}
		return at
	}
	for _, r := range g.Roots {
		out.Roots = append(out.Roots, meet(r))
	}
	return out
}

func classesOf(g api.Graph) []int {
	now := make([]int, len(g.Nodes))
	for count := 0; ; {
		known, next := map[string]int{}, make([]int, len(g.Nodes))
		for i, m := range g.Nodes {
			key := strconv.Itoa(m.Kind) + strconv.Quote(m.Name) + strconv.Itoa(m.Num)
			if m.Kind == kVar {
				key += "at " + strconv.Itoa(i)
			}
			for _, arg := range m.Args {
				key += " " + strconv.Itoa(now[arg])
			}
			if _, ok := known[key]; !ok {
				known[key] = len(known)
			}
			next[i] = known[key]
		}
		now = next
		if len(known) == count {
			return now
		}
		count = len(known)
	}
}

// textOf is the text that the chapter gives a good graph, made as text alone.
func textOf(g api.Graph) string {
	q := leastOf(g)
	led := make([]int, len(q.Nodes))
	for _, m := range q.Nodes {
		for _, arg := range m.Args {
			led[arg]++
		}
	}
	for _, r := range q.Roots {
		led[r] += 2
	}
	names := make([]string, len(q.Nodes))
	eqs, vars := 0, 0
	for i, m := range q.Nodes {
		switch {
		case m.Kind == kVar:
			vars++
			names[i] = "V" + strconv.Itoa(vars)
		case m.Kind == kComp && led[i] > 1:
			eqs++
			names[i] = "E" + strconv.Itoa(eqs)
		}
	}
	w := writer{q: q, names: names}
	var roots, rights []string
	for _, r := range q.Roots {
		roots = append(roots, w.node(r))
	}
	for i, m := range q.Nodes {
		if m.Kind == kComp && names[i] != "" {
			rights = append(rights, names[i]+" = "+w.comp(i))
		}
	}
	out := strings.Join(roots, ", ")
	if len(rights) > 0 {
		out += " where " + strings.Join(rights, ", ")
	}
	return out
}

// writer writes nodes of a least graph, some of which have names.
type writer struct {
	q     api.Graph
	names []string
}

func (w writer) node(i int) string {
	if w.names[i] != "" {
		return w.names[i]
	}
	m := w.q.Nodes[i]
	switch {
	case m.Kind == kInt:
		return strconv.Itoa(m.Num)
	case m.Kind == kAtom && m.Name == "[]":
		return "[]"
	case m.Kind == kAtom:
		return quoted(m.Name)
	}
	return w.comp(i)
}

func (w writer) comp(i int) string {
	m := w.q.Nodes[i]
	if m.Name == "." && len(m.Args) == 2 {
		return "[" + w.node(m.Args[0]) + w.rest(m.Args[1]) + "]"
	}
	var args []string
	for _, arg := range m.Args {
		args = append(args, w.node(arg))
	}
	return quoted(m.Name) + "(" + strings.Join(args, ",") + ")"
}

// rest is what stands in a list behind an element.
func (w writer) rest(i int) string {
	m := w.q.Nodes[i]
	if w.names[i] == "" && m.Kind == kComp && m.Name == "." && len(m.Args) == 2 {
		return "," + w.node(m.Args[0]) + w.rest(m.Args[1])
	}
	if m.Kind == kAtom && m.Name == "[]" {
		return ""
	}
	return "|" + w.node(i)
}

func quoted(name string) string {
	other := func(r rune) bool {
		return !(r >= 'a' && r <= 'z' || r >= 'A' && r <= 'Z' || r >= '0' && r <= '9' || r == '_')
	}
	if name[0] >= 'a' && name[0] <= 'z' && !strings.ContainsFunc(name, other) {
		return name
	}
	return "'" + strings.NewReplacer("'", "\\'", "\\", "\\\\").Replace(name) + "'"
}

// countOf is how many parts tie.Read counts of a text for ErrBig.
func countOf(text string) int {
	x, err := parse.Terms(text)
	if err != nil {
		panic(err)
	}
	names, others := map[string]int{}, 0
	var in func(e api.Expr)
	in = func(e api.Expr) {
		if e.Kind == kVar && e.Name != "_" {
			names[e.Name]++
		} else {
			others++
		}
		for _, arg := range e.Args {
			in(arg)
		}
	}
	for _, e := range x.Roots {
		in(e)
	}
	for _, q := range x.Eqs {
		names[q.Name]++
		in(q.Right)
	}
	return len(names) + others
}

// sameUpTo tells whether two good graphs are the same up to their variables: both are gone through at once, pair by pair, and each variable of the one has one of the other.
func sameUpTo(g, h api.Graph) bool {
	if len(g.Roots) != len(h.Roots) {
		return false
	}
	seen := map[[2]int]bool{}
	to, from := map[int]int{}, map[int]int{}
	var same func(i, j int) bool
	same = func(i, j int) bool {
		if seen[[2]int{i, j}] {
			return true
		}
		seen[[2]int{i, j}] = true
		m, k := g.Nodes[i], h.Nodes[j]
		if m.Kind != k.Kind || m.Name != k.Name || m.Num != k.Num || len(m.Args) != len(k.Args) {
			return false
		}
		if m.Kind == kVar {
			there, ok := to[i]
			back, ok2 := from[j]
			to[i], from[j] = j, i
			return (!ok || there == j) && (!ok2 || back == i)
		}
		for at := range m.Args {
			if !same(m.Args[at], k.Args[at]) {
				return false
			}
		}
		return true
	}
	for at := range g.Roots {
		if !same(g.Roots[at], h.Roots[at]) {
			return false
		}
	}
	return true
}

// dice is a row of numbers that look scattered, and are the same each time.
type dice uint64

func (d *dice) below(n int) int {
	*d = *d*6364136223846793005 + 1442695040888963407
	x := uint64(*d)
	x ^= x >> 29
	x *= 0xbf58476d1ce4e5b9
	x ^= x >> 32
	return int(x % uint64(n))
}

func (d *dice) one(list ...string) string { return list[d.below(len(list))] }

// node is a node of a graph of so many.
func (d *dice) node(count int) api.Node {
	switch d.below(9) {
	case 0:
		return v()
	case 1:
		return a(d.one("a", "b", "[]", "f", "V1", "it's", "."))
	case 2:
		return n(d.below(3) - 1)
	case 3, 4, 5:
		return c(".", d.below(count), d.below(count))
	}
	out := c(d.one("f", "f", "g", "[]", ".", "E1", "\\"))
	for range 1 + d.below(1+d.below(widest)) {
		out.Args = append(out.Args, d.below(count))
	}
	return out
}

// graph is a good graph of few nodes.
func (d *dice) graph() api.Graph {
	var g api.Graph
	count := 1 + d.below(12)
	for range count {
		g.Nodes = append(g.Nodes, d.node(count))
	}
	for range d.below(5) {
		g.Roots = append(g.Roots, d.below(count))
	}
	return g
}

// tree is a good graph whose arguments stand behind the compounds that have them, so that few of them lead to one node.
func (d *dice) tree() api.Graph {
	var g api.Graph
	count := 5 + d.below(40)
	for i := range count {
		m := d.node(count)
		if m.Kind == kComp && i == count-1 {
			m = v()
		}
		for k := range m.Args {
			m.Args[k] = min(i+1+d.below(6), count-1)
			if d.below(30) == 0 {
				m.Args[k] = d.below(count)
			}
		}
		g.Nodes = append(g.Nodes, m)
	}
	for i := range 1 + d.below(2) {
		g.Roots = append(g.Roots, i)
	}
	return g
}

// otherwise is a graph that is the same up to its variables, written otherwise: nodes in another order, some of them twice, and some that nothing leads to.
func (d *dice) otherwise(g api.Graph) api.Graph {
	copies := make([][]int, len(g.Nodes)) // of each node: where it is written
	total := 0
	for i, m := range g.Nodes {
		times := 1 + d.below(3)
		if m.Kind == kVar {
			times = 1
		}
		for range times {
			copies[i] = append(copies[i], total)
			total++
		}
	}
	order := make([]int, total+d.below(4))
	for i := range order {
		j := d.below(i + 1)
		order[i], order[j] = order[j], i
	}
	some := func(i int) int { return order[copies[i][d.below(len(copies[i]))]] }
	out := api.Graph{Nodes: make([]api.Node, len(order))}
	for i := range out.Nodes {
		out.Nodes[i] = d.node(len(order))
	}
	for i, m := range g.Nodes {
		for _, at := range copies[i] {
			anew := api.Node{Kind: m.Kind, Name: m.Name, Num: m.Num}
			for _, arg := range m.Args {
				anew.Args = append(anew.Args, some(arg))
			}
			out.Nodes[order[at]] = anew
		}
	}
	for _, r := range g.Roots {
		out.Roots = append(out.Roots, some(r))
	}
	return out
}

// changed is a graph with a small change, which may make it another.
func (d *dice) changed(g api.Graph) api.Graph {
	out := api.Graph{Nodes: slices.Clone(g.Nodes), Roots: slices.Clone(g.Roots)}
	at := d.below(len(out.Nodes))
	m := &out.Nodes[at]
	switch d.below(4) {
	case 0:
		*m = d.node(len(out.Nodes))
	case 1:
		if len(out.Roots) > 0 {
			out.Roots[d.below(len(out.Roots))] = at
		}
	default:
		m.Args = slices.Clone(m.Args)
		if len(m.Args) > 0 {
			m.Args[d.below(len(m.Args))] = d.below(len(out.Nodes))
		}
	}
	return out
}
