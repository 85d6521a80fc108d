package differ_test

import (
	"slices"
	"strconv"

	"tendril/api"
	"tendril/cells"
)

// Words are spelt here as numbers, apart from package word: a value times 8, and the tag.
const (
	tagRef  = 0
	tagAtom = 1
	tagInt  = 2
	tagStr  = 3
	tagFun  = 4
	tagFwd  = 5
)

func tagOf(w uint64) int   { return int(w % 8) }
func valueOf(w uint64) int { return int(int64(w) >> 3) }

// laidOpen is a heap as its dump tells it, read by the words of chapter 11.
type laidOpen struct{ api.Dump }

func open(h *cells.Heap) laidOpen { return laidOpen{h.Dump()} }

func (m laidOpen) cell(at int) bool {
	return at >= 0 && at < len(m.Words) && tagOf(m.Words[at]) <= tagStr
}

func (m laidOpen) cells() []int {
	var out []int
	for at := range m.Words {
		if m.cell(at) {
			out = append(out, at)
		}
	}
	return out
}

// strangers are places that are no cells': functors and forwards, and such where nothing is allocated.
func (m laidOpen) strangers() []int {
	out := []int{-1, -2, len(m.Words), len(m.Words) + 1}
	for at := range m.Words {
		if !m.cell(at) {
			out = append(out, at)
		}
	}
	return out
}

// free tells whether the word at a place is a variable that is free.
func (m laidOpen) free(at int) bool {
	return m.cell(at) && tagOf(m.Words[at]) == tagRef && valueOf(m.Words[at]) == at
}

// thing is what a cell holds: the place of a free variable or of a functor, the number of a name, or an integer.
type thing struct{ kind, value int }

func (m laidOpen) held(at int) thing {
	value := valueOf(m.Words[at])
	switch tagOf(m.Words[at]) {
	case tagAtom:
		return thing{kAtom, value}
	case tagInt:
		return thing{kInt, value}
	case tagStr:
		for tagOf(m.Words[value]) == tagFwd {
			value = valueOf(m.Words[value])
		}
		return thing{kComp, value}
	}
	if value == at {
		return thing{kVar, at}
	}
	return m.held(value)
}

// graph is what cells hold, as it stands there: its roots are the cells, and each free variable and each place of a compound is a node. Beside it is what each node is.
func (m laidOpen) graph(cells ...int) (api.Graph, []thing) {
	var out api.Graph
	place := map[thing]int{}
	var todo []thing
	meet := func(at int) int {
		x := m.held(at)
		if _, ok := place[x]; !ok {
			place[x] = len(todo)
			todo = append(todo, x)
		}
		return place[x]
	}
	for _, at := range cells {
		out.Roots = append(out.Roots, meet(at))
	}
	for i := 0; i < len(todo); i++ {
		node := api.Node{Kind: todo[i].kind}
		switch value := todo[i].value; node.Kind {
		case kAtom:
			node.Name = m.Names[value]
		case kInt:
			node.Num = value
		case kComp:
			fun := valueOf(m.Words[value])
			node.Name = m.Names[fun/16]
			for k := range fun % 16 {
				node.Args = append(node.Args, meet(value+1+k))
			}
		}
		out.Nodes = append(out.Nodes, node)
	}
	return out, todo
}

// verdict is what the chapter says of two cells: whether they are one is asked by their unfolding, whether they can be by what would have to be one.
func (m laidOpen) verdict(one, other int) api.Verdict {
	g, things := m.graph(one, other)
	if classes := classesOf(g.Nodes); classes[g.Roots[0]] == classes[g.Roots[1]] {
		return api.Verdict{Kind: isSame}
	}
	class, can := relation(g.Nodes, g.Roots[0], g.Roots[1])
	if !can {
		return api.Verdict{Kind: isApart}
	}
	out := api.Verdict{Kind: isOpen}
	for i, x := range things {
		alone := true
		for j := range things {
			alone = alone && (i == j || class[i] != class[j])
		}
		if x.kind == kVar && !alone {
			out.Vars = append(out.Vars, x.value)
		}
	}
	slices.Sort(out.Vars)
	return out
}

// classesOf is for each node a number that it has in common with those that are alike to it: nodes are parted by trees that are cut off deeper and deeper.
func classesOf(list []api.Node) []int {
	now := make([]int, len(list))
	for count := 0; ; {
		known, next := map[string]int{}, make([]int, len(list))
		for i, m := range list {
			key := strconv.Itoa(m.Kind) + strconv.Quote(m.Name) + strconv.Itoa(m.Num)
			if m.Kind == kVar {
				key += "at " + strconv.Itoa(i)
			}
			for _, arg := range m.Args {
				key += " " + strconv.Itoa(now[arg])
			}
			if _, ok := known[key]; !ok {
				known[key] = len(known)
			}
			next[i] = known[key]
		}
		now = next
		if len(known) == count {
			return now
		}
		count = len(known)
	}
}

// relation is for each node a number that it has in common with those that must be one with it, so that two are one, and with two compounds their arguments, pair by pair. It tells, too, whether all that must be one can be.
func relation(list []api.Node, one, other int) ([]int, bool) {
	class := make([]int, len(list))
	for i := range class {
		class[i] = i
	}
	again := true
	join := func(i, j int) {
		one, other := class[i], class[j]
		for k := range class {
			if class[k] == other && one != other {
				class[k], again = one, true
			}
		}
	}
	join(one, other)
	for again {
		again = false
		for i, m := range list {
			for j, o := range list[:i] {
				if class[i] != class[j] || m.Kind == kVar || o.Kind == kVar {
					continue
				}
				if m.Kind != o.Kind || m.Name != o.Name || m.Num != o.Num || len(m.Args) != len(o.Args) {
					return nil, false
				}
				for at := range m.Args {
					join(m.Args[at], o.Args[at])
				}
			}
		}
	}
	return class, true
}

// dice is a row of numbers that look scattered, and are the same each time.
type dice uint64

func (d *dice) below(n int) int {
	*d = *d*6364136223846793005 + 1442695040888963407
	x := uint64(*d)
	x ^= x >> 29
	x *= 0xbf58476d1ce4e5b9
	x ^= x >> 32
	return int(x % uint64(n))
}

func (d *dice) one(list ...string) string { return list[d.below(len(list))] }

// node is a node of a graph of so many; of few names, so that often two can be one.
func (d *dice) node(count int) api.Node {
	switch d.below(12) {
	case 0, 1, 2, 3:
		return v()
	case 4:
		return a(d.one("a", "a", "a", "b", "f"))
	case 5:
		return n(d.below(2))
	case 6:
		return c(d.one("f", "g"), d.below(count))
	case 7:
		out := c(d.one("f", "g", "h"))
		for range 1 + d.below(widest) {
			out.Args = append(out.Args, d.below(count))
		}
		return out
	}
	return c("f", d.below(count), d.below(count))
}

// graph is a good graph of at most so many nodes, with roots.
func (d *dice) graph(most int) api.Graph {
	var g api.Graph
	count := 1 + d.below(most)
	for range count {
		g.Nodes = append(g.Nodes, d.node(count))
	}
	for range 1 + d.below(4) {
		g.Roots = append(g.Roots, d.below(count))
	}
	return g
}

// among is one of a list that isn't empty.
func (d *dice) among(list []int) int { return list[d.below(len(list))] }
