package unify_test

import (
	"slices"
	"strconv"

	"tendril/api"
	"tendril/cells"
)

// Words are spelt here as numbers, apart from package word: a value times 8, and the tag.
const (
	tagRef  = 0
	tagAtom = 1
	tagInt  = 2
	tagStr  = 3
	tagFun  = 4
	tagFwd  = 5
)

func tagOf(w uint64) int   { return int(w % 8) }
func valueOf(w uint64) int { return int(int64(w) >> 3) }

// laidOpen is a heap as its dump tells it, read by the words of chapter 11.
type laidOpen struct{ api.Dump }

func open(h *cells.Heap) laidOpen { return laidOpen{h.Dump()} }

func (m laidOpen) cell(at int) bool {
	return at >= 0 && at < len(m.Words) && tagOf(m.Words[at]) <= tagStr
}

func (m laidOpen) cells() []int {
	var out []int
	for at := range m.Words {
		if m.cell(at) {
			out = append(out, at)
		}
	}
	return out
}

// strangers are places that are no cells': functors and forwards, and such where nothing is allocated.
func (m laidOpen) strangers() []int {
	out := []int{-1, -2, len(m.Words), len(m.Words) + 1}
	for at := range m.Words {
		if !m.cell(at) {
			out = append(out, at)
		}
	}
	return out
}

// thing is what a cell holds: the place of a free variable or of a functor, the number of a name, or an integer.
type thing struct{ kind, value int }

func (m laidOpen) held(at int) thing {
	value := valueOf(m.Words[at])
	switch tagOf(m.Words[at]) {
	case tagAtom:
		return thing{kAtom, value}
	case tagInt:
		return thing{kInt, value}
	case tagStr:
		for tagOf(m.Words[value]) == tagFwd {
			value = valueOf(m.Words[value])
		}
		return thing{kComp, value}
	}
	if value == at {
		return thing{kVar, at}
	}
	return m.held(value)
}

// graph is what cells hold, as it stands there: its roots are the cells, and each free variable and each place of a compound is a node.
func (m laidOpen) graph(cells []int) api.Graph {
	var out api.Graph
	place := map[thing]int{}
	var todo []thing
	meet := func(at int) int {
		x := m.held(at)
		if _, ok := place[x]; !ok {
			place[x] = len(todo)
			todo = append(todo, x)
		}
		return place[x]
	}
	for _, at := range cells {
		out.Roots = append(out.Roots, meet(at))
	}
	for i := 0; i < len(todo); i++ {
		node := api.Node{Kind: todo[i].kind}
		switch value := todo[i].value; node.Kind {
		case kAtom:
			node.Name = m.Names[value]
		case kInt:
			node.Num = value
		case kComp:
			fun := valueOf(m.Words[value])
			node.Name = m.Names[fun/16]
			for k := range fun % 16 {
				node.Args = append(node.Args, meet(value+1+k))
			}
		}
		out.Nodes = append(out.Nodes, node)
	}
	return out
}

// reach is how many words are reachable from places.
func (m laidOpen) reach(places ...int) int {
	met := make([]bool, len(m.Words))
	var all []int
	meet := func(at int) {
		if !met[at] {
			met[at] = true
			all = append(all, at)
		}
	}
	for _, at := range places {
		meet(at)
	}
	for i := 0; i < len(all); i++ {
		w := m.Words[all[i]]
		switch tagOf(w) {
		case tagRef, tagStr, tagFwd:
			meet(valueOf(w))
		case tagFun:
			for k := range valueOf(w) % 16 {
				meet(all[i] + 1 + k)
			}
		}
	}
	return len(all)
}

// unsound is what P11.3 says of the words of a heap and isn't so, or the empty text.
func (m laidOpen) unsound() string {
	tag := func(at int) int {
		if at < 0 || at >= len(m.Words) {
			return -1
		}
		return tagOf(m.Words[at])
	}
	for at, w := range m.Words {
		value, ok := valueOf(w), false
		switch tagOf(w) {
		case tagRef:
			ok = m.cell(value)
		case tagAtom:
			ok = value >= 0 && value < len(m.Names)
		case tagInt:
			ok = value >= -great && value <= great
		case tagStr, tagFwd:
			ok = tag(value) == tagFun || tag(value) == tagFwd
		case tagFun:
			ok = value >= 0 && value/16 < len(m.Names) && value%16 >= 1 && value%16 <= widest
			for k := range value % 16 {
				ok = ok && m.cell(at+1+k)
			}
		}
		if !ok {
			return "the word " + tell(w) + " at " + strconv.Itoa(at) + " may not stand there"
		}
	}
	return m.endless()
}

// endless is where one begins to follow references and forwards and doesn't come to an end, or the empty text.
func (m laidOpen) endless() string {
	ends := make([]bool, len(m.Words))
	for first := range m.Words {
		var way []int
		for at := first; !ends[at]; {
			way = append(way, at)
			w := m.Words[at]
			if t := tagOf(w); t != tagRef && t != tagFwd || t == tagRef && valueOf(w) == at {
				break
			}
			if len(way) > len(m.Words) {
				return "following from " + strconv.Itoa(first) + " doesn't end"
			}
			at = valueOf(w)
		}
		for _, at := range way {
			ends[at] = true
		}
	}
	return ""
}

// leastOf is the least graph of a good graph: nodes are parted by trees that are cut off deeper and deeper, and the classes are numbered as they are met.
func leastOf(g api.Graph) api.Graph {
	classes := classesOf(g.Nodes)
	var out api.Graph
	place := map[int]int{}
	var meet func(node int) int
	meet = func(node int) int {
		if at, ok := place[classes[node]]; ok {
			return at
		}
		m, at := g.Nodes[node], len(out.Nodes)
		place[classes[node]] = at
		out.Nodes = append(out.Nodes, api.Node{Kind: m.Kind, Name: m.Name, Num: m.Num})
		for _, arg := range m.Args {
			to := meet(arg)
			out.Nodes[at].Args = append(out.Nodes[at].Args, to)
		}
		return at
	}
	for _, r := range g.Roots {
		out.Roots = append(out.Roots, meet(r))
	}
	return out
}

// classesOf is for each node a number that it has in common with those that are alike to it.
func classesOf(list []api.Node) []int {
	now := make([]int, len(list))
	for count := 0; ; {
		known, next := map[string]int{}, make([]int, len(list))
		for i, m := range list {
			key := strconv.Itoa(m.Kind) + strconv.Quote(m.Name) + strconv.Itoa(m.Num)
			if m.Kind == kVar {
				key += "at " + strconv.Itoa(i)
			}
			for _, arg := range m.Args {
				key += " " + strconv.Itoa(now[arg])
			}
			if _, ok := known[key]; !ok {
				known[key] = len(known)
			}
			next[i] = known[key]
		}
		now = next
		if len(known) == count {
			return now
		}
		count = len(known)
	}
}

// relation is for each node a number that it has in common with those that must be one with it, so that the two of each pair are one, and with two compounds their arguments, pair by pair. It tells, too, whether all that must be one can be.
func relation(list []api.Node, pairs [][2]int) ([]int, bool) {
	class := make([]int, len(list))
	for i := range class {
		class[i] = i
	}
	again := true
	put := func(i, j int) {
		one, other := class[i], class[j]
		for k := range class {
			if class[k] == other && one != other {
				class[k], again = one, true
			}
		}
	}
	for _, pair := range pairs {
		put(pair[0], pair[1])
	}
	for again {
		again = false
		for i, m := range list {
			for j, o := range list[:i] {
				if class[i] != class[j] || m.Kind == kVar || o.Kind == kVar {
					continue
				}
				if m.Kind != o.Kind || m.Name != o.Name || m.Num != o.Num || len(m.Args) != len(o.Args) {
					return nil, false
				}
				for at := range m.Args {
					put(m.Args[at], o.Args[at])
				}
			}
		}
	}
	return class, true
}

// solved is the least graph of what a graph's roots become when pairs of nodes are made one, and whether they can be.
func solved(g api.Graph, pairs [][2]int) (api.Graph, bool) {
	class, can := relation(g.Nodes, pairs)
	if !can {
		return api.Graph{}, false
	}
	// The last of those that are one, and are no variables, stands for all.
	stands := make([]int, len(g.Nodes))
	for i := range stands {
		stands[i] = slices.Index(class, class[i])
		for j, m := range g.Nodes {
			if class[j] == class[i] && m.Kind != kVar {
				stands[i] = j
			}
		}
	}
	all := func(list []int) []int {
		var out []int
		for _, i := range list {
			out = append(out, stands[i])
		}
		return out
	}
	h := api.Graph{Roots: all(g.Roots)}
	for _, m := range g.Nodes {
		m.Args = all(m.Args)
		h.Nodes = append(h.Nodes, m)
	}
	return leastOf(h), true
}

// dice is a row of numbers that look scattered, and are the same each time.
type dice uint64

func (d *dice) below(n int) int {
	*d = *d*6364136223846793005 + 1442695040888963407
	x := uint64(*d)
	x ^= x >> 29
	x *= 0xbf58476d1ce4e5b9
	x ^= x >> 32
	return int(x % uint64(n))
}

func (d *dice) one(list ...string) string { return list[d.below(len(list))] }

// node is a node of a graph of so many; of few names, so that often two can be one.
func (d *dice) node(count int) api.Node {
	switch d.below(12) {
	case 0, 1, 2, 3:
		return v()
	case 4:
		return a(d.one("a", "a", "a", "b", "f"))
	case 5:
		return n(d.below(2))
	case 6:
		return c(d.one("f", "g"), d.below(count))
	case 7:
		out := c(d.one("f", "g", "h"))
		for range 1 + d.below(widest) {
			out.Args = append(out.Args, d.below(count))
		}
		return out
	}
	return c("f", d.below(count), d.below(count))
}

// graph is a good graph of at most so many nodes, with roots.
func (d *dice) graph(most int) api.Graph {
	var g api.Graph
	count := 1 + d.below(most)
	for range count {
		g.Nodes = append(g.Nodes, d.node(count))
	}
	for range 1 + d.below(4) {
		g.Roots = append(g.Roots, d.below(count))
	}
	return g
}

// among is one of a list that isn't empty.
func (d *dice) among(list []int) int { return list[d.below(len(list))] }
