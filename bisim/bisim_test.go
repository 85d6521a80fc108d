package bisim_test

import (
	"math"
	"runtime"
	"slices"
	"strconv"
	"strings"
	"testing"

	"tendril/api"
	"tendril/bisim"
)

// The limits are spelt as numbers here, apart from the program.
const (
	most  = 4096    // nodes, and roots
	great = 1 << 50 // an integer term
)

// node is a node from a short text: X a variable, a an atom, -7 an integer, f(1,2) a compound.
func node(s string) api.Node {
	name, rest, comp := strings.Cut(s, "(")
	if comp {
		n := api.Node{Kind: 4, Name: name}
		for _, a := range strings.FieldsFunc(rest, func(r rune) bool { return r == ',' || r == ')' }) {
			number, err := strconv.Atoi(a)
			if err != nil {
				panic(err)
			}
			n.Args = append(n.Args, number)
		}
		return n
	}
	if number, err := strconv.Atoi(s); err == nil {
		return api.Node{Kind: 3, Num: number}
	}
	if s[0] >= 'A' && s[0] <= 'Z' {
		return api.Node{Kind: 1}
	}
	return api.Node{Kind: 2, Name: s}
}

// read is a graph from its nodes, with blanks between, and its roots.
func read(nodes string, roots ...int) api.Graph {
	g := api.Graph{Roots: roots}
	for _, s := range strings.Fields(nodes) {
		g.Nodes = append(g.Nodes, node(s))
	}
	return g
}

// comp is a compound whose k arguments are one node.
func comp(name string, k, arg int) api.Node {
	return api.Node{Kind: 4, Name: name, Args: slices.Repeat([]int{arg}, k)}
}

// times is n nodes of one kind, with roots.
func times(n int, s string, roots ...int) api.Graph {
	g := api.Graph{Roots: roots}
	for range n {
		g.Nodes = append(g.Nodes, node(s))
	}
	return g
}

// chain is n compounds, each with the next node as all of its k arguments, and the node that ends them.
func chain(n, k int, last string) api.Graph {
	g := api.Graph{Roots: []int{0}}
	for i := range n {
		g.Nodes = append(g.Nodes, comp("f", k, i+1))
	}
	g.Nodes = append(g.Nodes, node(last))
	return g
}

// circle is n compounds of k arguments, each of which holds the next and the last the first; each of a number that step divides has another name.
func circle(n, k, step int) api.Graph {
	g := api.Graph{Roots: []int{0}}
	for i := range n {
		name := "f"
		if i%step == 0 {
			name = "g"
		}
		g.Nodes = append(g.Nodes, comp(name, k, (i+1)%n))
	}
	return g
}

// beside is graphs put beside one another.
func beside(gs ...api.Graph) api.Graph {
	var out api.Graph
	for _, g := range gs {
		first := len(out.Nodes)
		for _, n := range clone(g).Nodes {
			for k := range n.Args {
				n.Args[k] += first
			}
			out.Nodes = append(out.Nodes, n)
		}
		for _, r := range g.Roots {
			out.Roots = append(out.Roots, r+first)
		}
	}
	return out
}

// clone is a graph of its own with the same nodes and roots.
func clone(g api.Graph) api.Graph {
	out := api.Graph{Nodes: slices.Clone(g.Nodes), Roots: slices.Clone(g.Roots)}
	for i := range out.Nodes {
		out.Nodes[i].Args = slices.Clone(out.Nodes[i].Args)
	}
	return out
}

// equal tells whether two graphs are one as data.
func equal(a, b api.Graph) bool {
	if len(a.Nodes) != len(b.Nodes) || !slices.Equal(a.Roots, b.Roots) {
		return false
	}
	for i, n := range a.Nodes {
		m := b.Nodes[i]
		if n.Kind != m.Kind || n.Name != m.Name || n.Num != m.Num || !slices.Equal(n.Args, m.Args) {
			return false
		}
	}
	return true
}

// relation is the greatest relation by the document's words: pairs are struck out as long as one may not stay. Variables are told by their numbers in vars.
func relation(g api.Graph, vars map[int]int) [][]bool {
	stays := make([][]bool, len(g.Nodes))
	for i, a := range g.Nodes {
		stays[i] = make([]bool, len(g.Nodes))
		for j, b := range g.Nodes {
			stays[i][j] = a.Kind == b.Kind && a.Name == b.Name && a.Num == b.Num && len(a.Args) == len(b.Args)
			if a.Kind == 1 && b.Kind == 1 {
				stays[i][j] = vars[i] == vars[j]
			}
		}
	}
	for again := true; again; {
		again = false
		for i := range stays {
			for j := range stays {
				for k, a := range g.Nodes[i].Args {
					if stays[i][j] && !stays[a][g.Nodes[j].Args[k]] {
						stays[i][j], again = false, true
					}
				}
			}
		}
	}
	return stays
}

// ownVars tells each variable by its own number.
func ownVars(g api.Graph) map[int]int {
	vars := map[int]int{}
	for i, n := range g.Nodes {
		if n.Kind == 1 {
			vars[i] = i
		}
	}
	return vars
}

// numbered is the class of each node, where the classes of nodes that are the same by a test are numbered by their least nodes.
func numbered(nodes int, same func(i, j int) bool) []int {
	var least, out []int
	for n := range nodes {
		c := slices.IndexFunc(least, func(m int) bool { return same(m, n) })
		if c < 0 {
			c = len(least)
			least = append(least, n)
		}
		out = append(out, c)
	}
	return out
}

// classes is what Classes must answer, for graphs that aren't great.
func classes(g api.Graph) []int {
	stays := relation(g, ownVars(g))
	return numbered(len(g.Nodes), func(i, j int) bool { return stays[i][j] })
}

// rounds is what Classes must answer, found by telling trees that are cut off deeper and deeper, for greater graphs.
func rounds(g api.Graph) []int {
	now := make([]int, len(g.Nodes))
	for count := 0; ; {
		known := map[string]int{}
		var next []int
		for i, n := range g.Nodes {
			key := strconv.Itoa(n.Kind) + " " + n.Name + " " + strconv.Itoa(n.Num)
			if n.Kind == 1 {
				key += " " + strconv.Itoa(i)
			}
			for _, a := range n.Args {
				key += " " + strconv.Itoa(now[a])
			}
			if _, ok := known[key]; !ok {
				known[key] = len(known)
			}
			next = append(next, known[key])
		}
		now = next
		if len(known) == count {
			return now
		}
		count = len(known)
	}
}

// met is the order of meeting: one goes on where the walk stands, and back to where an argument is left.
func met(g api.Graph) []int {
	type stand struct{ node, next int }
	var out []int
	seen := make([]bool, len(g.Nodes))
	for _, r := range g.Roots {
		if seen[r] {
			continue
		}
		out, seen[r] = append(out, r), true
		walk := []stand{{r, 0}}
		for len(walk) > 0 {
			top := &walk[len(walk)-1]
			args := g.Nodes[top.node].Args
			if top.next == len(args) {
				walk = walk[:len(walk)-1]
				continue
			}
			to := args[top.next]
			top.next++
			if !seen[to] {
				out, seen[to] = append(out, to), true
				walk = append(walk, stand{to, 0})
			}
		}
	}
	return out
}

// least is the least graph, by the chapter's words, where the classes of the nodes are known.
func least(g api.Graph, classes []int) api.Graph {
	all := api.Graph{}
	for n, c := range classes {
		if c == len(all.Nodes) {
			m := g.Nodes[n]
			m.Args = nil
			for _, a := range g.Nodes[n].Args {
				m.Args = append(m.Args, classes[a])
			}
			all.Nodes = append(all.Nodes, m)
		}
	}
	for _, r := range g.Roots {
		all.Roots = append(all.Roots, classes[r])
	}
	order := met(all)
	place := map[int]int{}
	for i, n := range order {
		place[n] = i
	}
	out := api.Graph{}
	for _, n := range order {
		m := all.Nodes[n]
		for k, a := range m.Args {
			m.Args[k] = place[a]
		}
		out.Nodes = append(out.Nodes, m)
	}
	for _, r := range all.Roots {
		out.Roots = append(out.Roots, place[r])
	}
	return out
}

// named is what Named must answer of a graph whose least graph is q.
func named(q api.Graph) []int {
	edges := map[int]int{}
	for _, m := range q.Nodes {
		for _, a := range m.Args {
			edges[a]++
		}
	}
	// A root counts for two edges.
	for _, r := range q.Roots {
		edges[r] += 2
	}
	var out []int
	for n, m := range q.Nodes {
		if m.Kind == 4 && edges[n] > 1 {
			out = append(out, n)
		}
	}
	return out
}

// wantFault stops the test unless err is a bare fault of that code and place, without a cause.
func wantFault(t *testing.T, call string, err error, code api.Errno, at int) {
	t.Helper()
	f, ok := err.(*api.Fault)
	if !ok || f == nil {
		t.Fatalf("%s: %v, want a fault of code %d at %d", call, err, code, at)
	}
	if f.Code != code || f.At != at || f.Name != "" || f.Cause != nil {
		t.Fatalf("%s: %+v, want code %d at %d", call, *f, code, at)
	}
}

// wantRefused stops the test unless each call refuses the graph by this fault, with nothing beside it.
func wantRefused(t *testing.T, g api.Graph, code api.Errno, at int) {
	t.Helper()
	list, err := bisim.Classes(g)
	wantFault(t, "Classes", err, code, at)
	names, err := bisim.Named(g)
	wantFault(t, "Named", err, code, at)
	q, err := bisim.Quotient(g)
	wantFault(t, "Quotient", err, code, at)
	if len(list) > 0 || len(names) > 0 || !equal(q, api.Graph{}) {
		t.Fatalf("beside an error: %v, %v, %v", list, names, q)
	}
	// Check's fault is ahead of numbers of no nodes.
	for _, i := range []int{-1, 0, len(g.Nodes)} {
		for _, j := range []int{-1, 0, len(g.Nodes)} {
			same, err := bisim.Same(g, i, j)
			wantFault(t, "Same", err, code, at)
			if same {
				t.Fatalf("Same(%d, %d) beside an error", i, j)
			}
		}
	}
	for _, other := range []api.Graph{g, {}, read("X", 0), read("f(0)")} {
		if bisim.Alike(g, other) || bisim.Alike(other, g) {
			t.Fatalf("a graph that isn't good is told alike to %v", other)
		}
	}
}

// wantAll stops the test unless each call answers what these classes ask.
func wantAll(t *testing.T, g api.Graph, want []int) {
	t.Helper()
	if got, err := bisim.Classes(g); err != nil || !slices.Equal(got, want) {
		t.Fatalf("Classes of %v = %v, %v, want %v", g, got, err, want)
	}
	wantSame(t, g, want)
	q := least(g, want)
	got, err := bisim.Quotient(g)
	if err != nil || !equal(got, q) {
		t.Fatalf("Quotient of %v = %v, %v, want %v", g, got, err, q)
	}
	if again, err := bisim.Quotient(got); err != nil || !equal(again, q) {
		t.Fatalf("Quotient of Quotient of %v = %v, %v", g, again, err)
	}
	// No two nodes of it are alike.
	if own, err := bisim.Classes(got); err != nil || !slices.Equal(own, rising(len(q.Nodes))) {
		t.Fatalf("Classes of Quotient of %v = %v, %v", g, own, err)
	}
	if got, err := bisim.Named(g); err != nil || !slices.Equal(got, named(q)) {
		t.Fatalf("Named of %v = %v, %v, want %v", g, got, err, named(q))
	}
	if !bisim.Alike(g, g) || !bisim.Alike(g, q) || !bisim.Alike(q, g) {
		t.Fatalf("%v isn't alike to itself and to %v", g, q)
	}
}

// wantSame stops the test unless Same answers by these classes, at some nodes of a great graph, at all of a small one.
func wantSame(t *testing.T, g api.Graph, want []int) {
	t.Helper()
	step := 1 + len(want)/9
	if len(want) > 300 {
		step = 1 + len(want)/2
	}
	for i := 0; i < len(want); i += step {
		for j := len(want) - 1; j >= 0; j -= step {
			if same, err := bisim.Same(g, i, j); err != nil || same != (want[i] == want[j]) {
				t.Fatalf("Same(%v, %d, %d) = %v, %v", g, i, j, same, err)
			}
		}
	}
}

// rising is the numbers below n.
func rising(n int) []int {
	var out []int
	for i := range n {
		out = append(out, i)
	}
	return out
}

// P5.1 to P5.3: the chapter's examples, as they stand there.
func TestExamples(t *testing.T) {
	wantAll(t, read("f(1) f(0) f(2) X"), []int{0, 0, 0, 1})
	wantAll(t, read("f(1) X f(3) X"), []int{0, 1, 2, 3})
	g := read("f(1,2) g(0) g(3) f(2,1) a", 0, 3)
	wantAll(t, g, []int{0, 1, 1, 0, 2})
	if q, err := bisim.Quotient(g); err != nil || !equal(q, read("f(1,1) g(0)", 0, 0)) {
		t.Errorf("Quotient = %v, %v", q, err)
	}
	for _, x := range []struct {
		nodes string
		want  []int
	}{
		{"f(1,1) g(2) a", []int{0, 1}}, {"f(1) g(2) a", []int{0}}, {"f(1) g(0)", []int{0}}, {"X", nil}, {"f(1,2) g(1) a", []int{0, 1}},
	} {
		if got, err := bisim.Named(read(x.nodes, 0)); err != nil || !slices.Equal(got, x.want) {
			t.Errorf("Named of %s = %v, %v, want %v", x.nodes, got, err, x.want)
		}
	}
	if !bisim.Alike(read("f(1,2) X X", 0), read("f(2,1) X X", 0)) {
		t.Error("f of two variables isn't alike to f of two variables")
	}
	if bisim.Alike(read("f(1,2) X X", 0), read("f(1,1) X", 0)) {
		t.Error("f of two variables is alike to f of one twice")
	}
}

// P5.1: nodes that are alike though they are written apart, and nodes that part, by hand.
func TestClassesByHand(t *testing.T) {
	for _, x := range []struct {
		nodes string
		want  []int
	}{
		{"", nil},
		{"X", []int{0}},
		{"X Y X", []int{0, 1, 2}},
		{"a b a", []int{0, 1, 0}},
		{"7 -7 7 0 0", []int{0, 1, 0, 2, 2}},
		// An atom and compounds of one name.
		{"f f(0) f(0,0) f(1) f(1,1)", []int{0, 1, 2, 3, 4}},
		{"a f(0) g(0) f(0) g(0)", []int{0, 1, 2, 1, 2}},
		// Circles of unlike lengths.
		{"f(0) f(2) f(1) f(4) f(5) f(3)", []int{0, 0, 0, 0, 0, 0}},
		{"f(1) g(0) f(3) g(4) f(5) g(2)", []int{0, 1, 0, 1, 0, 1}},
		{"f(1) g(2) h(0) f(4) h(5) g(3)", []int{0, 1, 2, 3, 4, 5}},
		// A way into a circle.
		{"f(1) f(2) f(3) f(2)", []int{0, 0, 0, 0}},
		{"f(1) g(2) f(3) g(2) f(4)", []int{0, 1, 0, 1, 2}},
		// Copies side by side, with their own variables and with one.
		{"f(1,2) a 7 f(4,5) a 7", []int{0, 1, 2, 0, 1, 2}},
		{"f(1) X f(3) X", []int{0, 1, 2, 3}},
		{"f(1) X f(1)", []int{0, 1, 0}},
		{"f(1,2) X Y f(2,1) f(1,2)", []int{0, 1, 2, 3, 0}},
		// An argument twice, and the order of arguments.
		{"f(1,1) a f(1,3) a f(4,1) b", []int{0, 1, 0, 1, 2, 3}},
		{"f(2,3) f(3,2) a b", []int{0, 1, 2, 3}},
		{"f(0,1) f(1,0)", []int{0, 0}},
		{"f(0,1) f(1,2) a", []int{0, 1, 2}},
		{"f(1,0) f(0,2) f(3,1) f(2,4) X", []int{0, 1, 2, 3, 4}},
		// Lists of zeros: for ever, and those that end.
		{".(1,0) 0 .(3,4) 0 .(1,2)", []int{0, 1, 0, 1, 0}},
		{".(1,2) 0 .(1,3) []", []int{0, 1, 2, 3}},
	} {
		g := read(x.nodes)
		wantAll(t, g, x.want)
		for n := range g.Nodes {
			wantAll(t, api.Graph{Nodes: g.Nodes, Roots: []int{n}}, x.want)
			wantAll(t, api.Graph{Nodes: g.Nodes, Roots: []int{n, 0, n, len(g.Nodes) - 1}}, x.want)
		}
	}
}

// P5.1: each part of a label tells nodes apart, alone and where it lies below.
func TestLabels(t *testing.T) {
	long := strings.Repeat("x", 31)
	list := []api.Node{
		{Kind: 1}, {Kind: 1}, node("a"), node("b"), node("ab"), {Kind: 2, Name: "A"}, {Kind: 2, Name: "1"}, {Kind: 2, Name: long}, {Kind: 2, Name: long + "x"}, {Kind: 2, Name: long + "y"},
		node("0"), node("1"), node("-1"), {Kind: 3, Num: great}, {Kind: 3, Num: -great}, {Kind: 3, Num: 1 << 32}, {Kind: 3, Num: 1<<32 + 1},
	}
	leaves := len(list)
	for k := 1; k <= 8; k++ {
		list = append(list, comp("a", k, 2), comp("b", k, 2), comp("a", k, 3), comp(long, k, 2), comp(long+"x", k, 2))
	}
	for k := 1; k <= 8; k++ {
		list = append(list, comp("c", k, 2))
		for at := range k {
			// All arguments are one node but for that at one place.
			n := comp("c", k, 2)
			n.Args[at] = 3
			list = append(list, n)
		}
	}
	wantAll(t, api.Graph{Nodes: list, Roots: []int{0, len(list) - 1}}, rising(len(list)))
	// Each a second time, the variables but for: as alike as it can be.
	twice := beside(api.Graph{Nodes: list}, api.Graph{Nodes: list})
	want := rising(len(list))
	want = append(want, len(list), len(list)+1)
	want = append(want, rising(len(list))[2:]...)
	wantAll(t, twice, want)
	for i := 2; i < leaves; i++ {
		for j := 2; j < leaves; j++ {
			g := api.Graph{Nodes: []api.Node{comp("f", 1, 2), comp("f", 1, 3), list[i], list[j]}, Roots: []int{0, 1}}
			if same, err := bisim.Same(g, 0, 1); err != nil || same != (i == j) {
				t.Errorf("f(%v) and f(%v): %v, %v", list[i], list[j], same, err)
			}
		}
	}
}

// P5.1: numbers of nodes at the edges, at fault alone and together.
func TestSameNumbers(t *testing.T) {
	for _, x := range []struct {
		g     api.Graph
		alike bool // all of its nodes, else none
	}{
		{api.Graph{}, false}, {read("X"), false}, {read("a", 0), false}, {read("f(0) f(0) f(1)", 2), true}, {times(most, "X", 0), false},
		{times(most, "f(0)"), true}, {chain(most-1, 8, "a"), false},
	} {
		g, n := x.g, len(x.g.Nodes)
		numbers := []int{-1, 0, n - 1, n, n + 1, math.MinInt, math.MaxInt, 1 << 32, most}
		for _, i := range numbers {
			for _, j := range numbers {
				same, err := bisim.Same(g, i, j)
				switch {
				case i < 0 || i >= n:
					wantFault(t, "Same", err, 50, i)
				case j < 0 || j >= n:
					wantFault(t, "Same", err, 50, j)
				default:
					if err != nil || same != (i == j || x.alike) {
						t.Fatalf("Same(%d, %d) of %d nodes = %v, %v", i, j, n, same, err)
					}
					continue
				}
				if same {
					t.Fatalf("Same(%d, %d) beside an error", i, j)
				}
			}
		}
	}
}

// P5.1 to P5.3: each of Check's faults comes out of each call as it is.
func TestRefused(t *testing.T) {
	for _, s := range []string{"X", "a", "7", "f(0)"} {
		for _, n := range []int{most + 1, most + 2, 2 * most, 1 << 18} {
			wantRefused(t, times(n, s, 0), api.ErrNodes, n)
			wantRefused(t, times(1, s, make([]int, n)...), api.ErrRoots, n)
			wantRefused(t, times(n, s, make([]int, n)...), api.ErrNodes, n)
		}
		for _, root := range []int{-1, 3, 4, math.MinInt, math.MaxInt} {
			wantRefused(t, times(3, s, 2, root, 0), api.ErrRoot, 1)
		}
	}
	wantRefused(t, api.Graph{Roots: []int{0}}, api.ErrRoot, 0)
	wantRefused(t, times(most, "a", append(make([]int, most-1), most)...), api.ErrRoot, most-1)
	for _, n := range []api.Node{
		{}, {Kind: 5}, {Kind: -1}, {Kind: 1, Name: "a"}, {Kind: 1, Num: 1}, {Kind: 1, Args: []int{0}}, {Kind: 2}, {Kind: 2, Name: "a b"},
		{Kind: 2, Name: strings.Repeat("x", 33)}, {Kind: 2, Name: "a", Num: 1}, {Kind: 2, Name: "a", Args: []int{0}}, {Kind: 3, Num: great + 1},
		{Kind: 3, Num: -great - 1}, {Kind: 3, Name: "a"}, {Kind: 3, Args: []int{0}}, {Kind: 4, Name: "f"}, {Kind: 4, Args: []int{0}},
		comp("f", 9, 0), comp("f", 1, 3), comp("f", 1, -1), comp("f", 8, math.MaxInt), {Kind: 4, Name: "f", Num: 1, Args: []int{0}},
		{Kind: 4, Name: "f", Args: []int{0, 1, 2, 0, 1, 2, 0, 3}},
	} {
		for at := range 3 {
			g := read("X f(0,1) a", 1)
			g.Nodes[at] = n
			wantRefused(t, g, api.ErrGraph, at)
			// The first bad node is told, and ahead of a bad root.
			g.Nodes = append(g.Nodes, api.Node{})
			g.Roots = []int{9}
			if len(n.Args) == 0 || slices.Max(n.Args) != 3 {
				wantRefused(t, g, api.ErrGraph, at)
			}
		}
	}
}

// P5.1, P5.2: the greatest graphs, of one kind of node.
func TestGreatestOfOneKind(t *testing.T) {
	all := rising(most)
	for _, n := range []int{1, 2, most - 1, most} {
		noughts := make([]int, n)
		wantAll(t, times(n, "X"), all[:n])
		wantAll(t, times(n, "X", all[:n]...), all[:n])
		wantAll(t, times(n, "X", noughts...), all[:n])
		for _, s := range []string{"a", "7", "f(0)", "f(0,0,0,0,0,0,0,0)"} {
			wantAll(t, times(n, s), noughts)
			wantAll(t, times(n, s, all[:n]...), noughts)
			wantAll(t, times(n, s, make([]int, most)...), noughts)
		}
	}
	wantAll(t, api.Graph{}, nil)
	wantAll(t, api.Graph{Nodes: []api.Node{}, Roots: []int{}}, nil)
	var g api.Graph
	for n := range most {
		g.Nodes = append(g.Nodes, api.Node{Kind: 3, Num: n - most/2})
	}
	wantAll(t, g, all)
	g.Roots = all
	wantAll(t, g, all)
}

// P5.1, P5.2: the deepest graphs: nodes that part only at the far end, and such as never part.
func TestDeepest(t *testing.T) {
	for _, k := range []int{1, 2, 8} {
		for _, last := range []string{"X", "a", "7", "g(0)", "g(4095)"} {
			wantAll(t, chain(most-1, k, last), rising(most))
		}
		wantAll(t, circle(most, k, most), rising(most))
		wantAll(t, circle(most, k, 1), make([]int, most))
		for _, step := range []int{2, 3, 64, 2048} {
			// With a step that doesn't divide the length no two nodes are alike.
			period := step
			if most%step != 0 {
				period = most
			}
			var want []int
			for i := range most {
				want = append(want, i%period)
			}
			wantAll(t, circle(most, k, step), want)
		}
	}
	// A way of 4095 steps into a circle of one.
	wantAll(t, chain(most-1, 1, "f(4095)"), make([]int, most))
	// The greatest number of ways through a graph.
	g := chain(most-1, 8, "a")
	if list, err := bisim.Named(g); err != nil || !slices.Equal(list, rising(most-1)) {
		t.Errorf("Named: %d nodes, %v", len(list), err)
	}
	if list, err := bisim.Named(chain(most-1, 1, "a")); err != nil || !slices.Equal(list, []int{0}) {
		t.Errorf("Named = %v, %v", list, err)
	}
}

// P5.1: two chains part at all depths if their ends do, and at none if their ends are alike.
func TestTwoChains(t *testing.T) {
	const half = most / 2
	for _, x := range []struct {
		a, b    string
		classes int
	}{
		{"a", "a", half}, {"a", "b", most}, {"7", "7", half}, {"7", "8", most}, {"X", "X", most},
		{"f(2047,2047)", "f(0,0)", 1}, {"g(2047)", "g(2047)", half}, {"g(2047)", "g(0)", most}, {"g(0)", "g(0)", half},
	} {
		var want []int
		for i := range most {
			want = append(want, i%x.classes)
		}
		wantAll(t, beside(chain(half-1, 2, x.a), chain(half-1, 2, x.b)), want)
	}
}

// P5.1: circles of unlike lengths beside one another, greater ones.
func TestCirclesOfUnlikeLength(t *testing.T) {
	for _, lengths := range [][]int{{1024, 2048, 512}, {6, 4, 10, 2}, {3, 5, 7, 11, 13}, {30, 42, 70}} {
		for _, step := range []int{1, 2} {
			g, want := api.Graph{}, []int{}
			for _, n := range lengths {
				if n%step != 0 {
					n *= step
				}
				g = beside(g, circle(n, 1, step))
				for i := range n {
					want = append(want, i%step)
				}
			}
			wantAll(t, g, want)
		}
	}
}

// tree is a tree of compounds with two arguments, of so many levels; its leaves are told by leaf.
func tree(levels int, leaf func(n int) string) api.Graph {
	g := api.Graph{Roots: []int{0}}
	compounds := 1<<(levels-1) - 1
	for n := range 1<<levels - 1 {
		if n < compounds {
			g.Nodes = append(g.Nodes, api.Node{Kind: 4, Name: "t", Args: []int{2*n + 1, 2*n + 2}})
		} else {
			g.Nodes = append(g.Nodes, node(leaf(n)))
		}
	}
	return g
}

// P5.1, P5.2: wide trees: all levels fall together, or one leaf parts all that lie above it.
func TestTrees(t *testing.T) {
	g := tree(12, func(int) string { return "a" })
	q, err := bisim.Quotient(g)
	if err != nil || !equal(q, renamed(chain(11, 2, "a"), "t")) {
		t.Errorf("Quotient of a tree has %d nodes, %v", len(q.Nodes), err)
	}
	wantAll(t, g, rounds(g))
	for at := 2047; at < 4095; at += 511 {
		g := tree(12, func(n int) string {
			if n == at {
				return "b"
			}
			return "a"
		})
		if q, err := bisim.Quotient(g); err != nil || len(q.Nodes) != 23 {
			t.Errorf("Quotient of a tree with an odd leaf has %d nodes, %v", len(q.Nodes), err)
		}
		wantAll(t, g, rounds(g))
	}
	wantAll(t, tree(12, func(int) string { return "X" }), rising(4095))
}

// renamed is a graph whose compounds have another name.
func renamed(g api.Graph, name string) api.Graph {
	for i := range g.Nodes {
		if g.Nodes[i].Kind == 4 {
			g.Nodes[i].Name = name
		}
	}
	return g
}

// P5.2: least graphs and their names, by hand.
func TestQuotientByHand(t *testing.T) {
	for _, x := range []struct {
		g, want api.Graph
		named   []int
	}{
		{api.Graph{}, api.Graph{}, nil},
		// Nothing is met without roots.
		{read("f(0) X a"), api.Graph{}, nil},
		{read("a b c", 1), read("b", 0), nil},
		{read("a b a", 2, 0, 1), read("a b", 0, 0, 1), nil},
		{read("X X", 1, 0, 1), read("X X", 0, 1, 0), nil},
		// The least graph's own order of meeting, not that of the least nodes.
		{read("a b f(1,0)", 2), read("f(1,2) b a", 0), []int{0}},
		{read("f(1) f(0) g(3,0) g(2,1)", 3, 1), read("g(0,1) f(1)", 0, 1), []int{0, 1}},
		{read("f(3,4) g(5) g(6) g(5) g(6) a a", 0), read("f(1,1) g(2) a", 0), []int{0, 1}},
		{read("f(1,2) f(3,3) f(4,4) a a", 0), read("f(1,1) f(2,2) a", 0), []int{0, 1}},
		// An edge each: of f to g, of h to g; but one edge only where h isn't met.
		{read("f(1,2) g(3) h(1) a", 0), read("f(1,3) g(2) a h(1)", 0), []int{0, 1}},
		{read("f(1,3) g(3) h(1) a", 0), read("f(1,2) g(2) a", 0), []int{0}},
		// A root in the midst, and one twice.
		{read("f(1) g(2) h(3) a", 0, 2), read("f(1) g(2) h(3) a", 0, 2), []int{0, 2}},
		{read("f(1) g(2) h(3) a", 2, 2), read("h(1) a", 0, 0), []int{0}},
		// Atoms, integers and variables have no name, be they roots or used twice.
		{read("f(1,1,2,2,3,3) X a 7", 0, 1, 2, 3), read("f(1,1,2,2,3,3) X a 7", 0, 1, 2, 3), []int{0}},
		// A circle whose only edge from outside is that of f, with the one that leads back: two.
		{read("f(1) g(2) h(1)", 0), read("f(1) g(2) h(1)", 0), []int{0, 1}},
		{read("f(1) g(2) h(1)", 1), read("g(1) h(0)", 0), []int{0}},
		{read("f(1) f(2) f(2)", 0), read("f(0)", 0), []int{0}},
	} {
		if q, err := bisim.Quotient(x.g); err != nil || !equal(q, x.want) {
			t.Errorf("Quotient of %v = %v, %v, want %v", x.g, q, err, x.want)
		}
		if list, err := bisim.Named(x.g); err != nil || !slices.Equal(list, x.named) {
			t.Errorf("Named of %v = %v, %v, want %v", x.g, list, err, x.named)
		}
		wantAll(t, x.g, classes(x.g))
	}
}

// wantAlike stops the test unless Alike answers this, either way round.
func wantAlike(t *testing.T, a, b api.Graph, want bool) {
	t.Helper()
	if bisim.Alike(a, b) != want || bisim.Alike(b, a) != want {
		t.Fatalf("Alike of %v and %v isn't %v", a, b, want)
	}
}

// P5.3: variables that are renamed, swapped and joined, roots, and other orders of nodes, by hand.
func TestAlikeByHand(t *testing.T) {
	for _, x := range []struct {
		a, b api.Graph
		want bool
	}{
		{api.Graph{}, api.Graph{Nodes: []api.Node{}, Roots: []int{}}, true},
		// What isn't met doesn't count.
		{api.Graph{}, read("a f(1)"), true},
		{read("a X"), read("f(0)"), true},
		{read("a X", 0), read("Y f(1) a", 2), true},
		{read("a", 0), api.Graph{}, false},
		// As many roots, each alike in its place.
		{read("a", 0), read("a", 0, 0), false},
		{read("a a", 0, 1), read("a", 0, 0), true},
		{read("a b", 0, 1), read("a b", 1, 0), false},
		{read("a b", 0, 1), read("b a", 1, 0), true},
		// Variables, paired one to one.
		{read("X", 0), read("X X", 1), true},
		{read("X X", 0, 1), read("X X", 1, 0), true},
		{read("X X", 0, 1), read("X", 0, 0), false},
		{read("X X", 0, 1, 0), read("X X", 0, 1, 1), false},
		{read("X X", 0, 1, 0), read("X X", 1, 0, 1), true},
		{read("X X X", 0, 1, 2), read("X X X", 2, 0, 1), true},
		{read("X", 0), read("a", 0), false},
		{read("f(1,2) X X", 0), read("f(2,1) X X", 0), true},
		{read("f(1,2) X X", 0), read("f(1,1) X", 0), false},
		{read("f(1,2) g(2,1) X X", 0, 1), read("f(3,2) g(3,2) X X", 0, 1), false},
		{read("f(2,3) g(2,3) X X", 0, 1), read("f(3,2) g(3,2) X X", 0, 1), true},
		{read("f(2,3) g(2,3) X X", 0, 1), read("f(2,3) g(3,2) X X", 0, 1), false},
		{read("f(1,2,3) X X X", 0, 1, 2, 3), read("f(3,1,2) X X X", 0, 3, 1, 2), true},
		{read("f(1,2,3) X X X", 0, 1, 2, 3), read("f(3,1,2) X X X", 0, 1, 2, 3), false},
		// Circles that are written apart.
		{read("f(0)", 0), read("f(1) f(2) f(1)", 0), true},
		{read("f(0)", 0), read("g(0)", 0), false},
		{read("f(1) g(0)", 0), read("f(1) g(2) f(3) g(0)", 2), true},
		{read("f(1) g(0)", 0), read("f(1) g(0)", 1), false},
		{read(".(1,0) X", 0), read(".(1,2) X .(1,0)", 2), true},
		{read(".(1,0) X", 0), read(".(1,2) X .(3,0) X", 2), false},
		{read(".(1,2) X .(3,0) X", 0), read(".(1,2) X .(3,0) X", 2), true},
		{read(".(1,2) X .(3,0) X", 0, 1), read(".(1,2) X .(3,0) X", 2, 1), false},
		{read(".(1,2) X .(3,0) X", 0, 1), read(".(1,2) X .(3,0) X", 2, 3), true},
		// Sharing is none of the trees.
		{read("f(1,1) g(2) a", 0), read("f(1,2) g(3) g(4) a a", 0), true},
		{read("f(1,1) g(2) a", 0), read("f(1,2) g(3) g(4) a b", 0), false},
		{read("f(1,1) g(2) X", 0), read("f(1,2) g(3) g(4) X X", 0), false},
		{read("f(1,1) g(2) X", 0), read("f(1,2) g(3) g(3) X", 0), true},
	} {
		wantAlike(t, x.a, x.b, x.want)
		if got := paired(x.a, x.b); got != x.want {
			t.Fatalf("by all pairings %v and %v are %v", x.a, x.b, got)
		}
	}
	wantAlike(t, chain(most-1, 8, "a"), chain(most-1, 8, "a"), true)
	wantAlike(t, chain(most-1, 8, "a"), chain(most-1, 8, "b"), false)
	wantAlike(t, chain(most-1, 8, "X"), chain(most-1, 8, "X"), true)
	wantAlike(t, chain(most-1, 8, "a"), chain(most-2, 8, "a"), false)
	wantAlike(t, circle(most, 8, 1), circle(most-1, 8, 1), true)
	wantAlike(t, circle(most, 8, 4), circle(most/2, 8, 4), true)
	wantAlike(t, circle(most, 8, 4), circle(most, 8, 8), false)
	wantAlike(t, times(most, "X", rising(most)...), times(most, "X", rising(most)...), true)
	wantAlike(t, times(most, "X", rising(most)...), times(most, "X", make([]int, most)...), false)
}

// paired tells whether two good graphs are the same up to their variables, by the chapter's words: all ways to pair the variables are tried.
func paired(a, b api.Graph) bool {
	if len(a.Roots) != len(b.Roots) {
		return false
	}
	both := beside(a, b)
	ofA, ofB := metVars(a), metVars(b)
	if len(ofA) != len(ofB) {
		return false
	}
	return slices.ContainsFunc(orders(len(ofA)), func(order []int) bool {
		vars := ownVars(both)
		for i, v := range ofA {
			vars[len(a.Nodes)+ofB[order[i]]] = v
		}
		stays := relation(both, vars)
		for i, r := range a.Roots {
			if !stays[r][len(a.Nodes)+b.Roots[i]] {
				return false
			}
		}
		return true
	})
}

func metVars(g api.Graph) []int {
	return slices.DeleteFunc(met(g), func(n int) bool { return g.Nodes[n].Kind != 1 })
}

// orders is all orders of the numbers below n.
func orders(n int) [][]int {
	if n == 0 {
		return [][]int{nil}
	}
	var out [][]int
	for _, shorter := range orders(n - 1) {
		for at := range n {
			out = append(out, slices.Insert(slices.Clone(shorter), at, n-1))
		}
	}
	return out
}

// dice are numbers that look scattered, the same ones in each run.
type dice uint64

func (d *dice) below(n int) int {
	*d = *d*6364136223846793005 + 1442695040888963407
	return int(uint64(*d)>>33) % n
}

// node is a good node of a graph of so many; there are few labels, so that many nodes are alike.
func (d *dice) node(nodes int) api.Node {
	switch d.below(9) {
	case 0:
		return api.Node{Kind: 1}
	case 1:
		return api.Node{Kind: 2, Name: []string{"a", "b"}[d.below(2)]}
	case 2:
		return api.Node{Kind: 3, Num: d.below(2)}
	}
	n := api.Node{Kind: 4, Name: []string{"f", "f", "g"}[d.below(3)]}
	for range 1 + d.below(1+d.below(3)) {
		n.Args = append(n.Args, d.below(nodes))
	}
	return n
}

// graph is a good graph.
func (d *dice) graph(most int) api.Graph {
	var g api.Graph
	nodes := d.below(most + 1)
	for range nodes {
		g.Nodes = append(g.Nodes, d.node(nodes))
	}
	for range d.below(5) {
		if nodes > 0 {
			g.Roots = append(g.Roots, d.below(nodes))
		}
	}
	return g
}

// spread is a graph that says the same with more nodes, in another order; and the node of g that each of them is a copy of.
func (d *dice) spread(g api.Graph, copies int) (api.Graph, []int) {
	var from []int
	for n, m := range g.Nodes {
		from = append(from, n)
		for m.Kind != 1 && d.below(copies) > 0 {
			from = append(from, n)
		}
	}
	for i := range from {
		j := d.below(i + 1)
		from[i], from[j] = from[j], from[i]
	}
	some := func(n int) int {
		for {
			if at := d.below(len(from)); from[at] == n {
				return at
			}
		}
	}
	out := api.Graph{}
	for _, n := range from {
		m := g.Nodes[n]
		m.Args = nil
		for _, a := range g.Nodes[n].Args {
			m.Args = append(m.Args, some(a))
		}
		out.Nodes = append(out.Nodes, m)
	}
	for _, r := range g.Roots {
		out.Roots = append(out.Roots, some(r))
	}
	return out, from
}

// change changes one thing of a graph of its own, so that it stays good.
func (d *dice) change(g api.Graph) {
	if len(g.Nodes) == 0 {
		return
	}
	n := &g.Nodes[d.below(len(g.Nodes))]
	switch {
	case len(g.Roots) > 0 && d.below(4) == 0:
		g.Roots[d.below(len(g.Roots))] = d.below(len(g.Nodes))
	case n.Kind == 4 && d.below(3) > 0:
		n.Args[d.below(len(n.Args))] = d.below(len(g.Nodes))
	default:
		*n = d.node(len(g.Nodes))
	}
}

// P5.1, P5.2: graphs of all shapes.
func TestManyGraphs(t *testing.T) {
	fewer := 0
	for seed := range 12000 {
		d := dice(seed)
		g := d.graph(1 + d.below(14))
		want := classes(g)
		wantAll(t, g, want)
		if len(want) > 0 && slices.Max(want) < len(want)-1 {
			fewer++
		}
	}
	if fewer < 2500 {
		t.Errorf("only %d graphs with alike nodes", fewer)
	}
}

// P5.1 to P5.3: a graph, and one that says the same by more nodes in another order.
func TestSpread(t *testing.T) {
	for seed := range 6000 {
		d := dice(seed)
		g := d.graph(1 + d.below(8))
		more, from := d.spread(g, 3)
		of := classes(g)
		// A copy has the class of its original, numbered by the copies' own order.
		want := numbered(len(from), func(i, j int) bool { return of[from[i]] == of[from[j]] })
		wantAll(t, more, want)
		wantAlike(t, g, more, true)
		q, err := bisim.Quotient(g)
		if r, err2 := bisim.Quotient(more); err != nil || err2 != nil || !equal(q, r) {
			t.Fatalf("Quotients of %v and %v are %v and %v", g, more, q, r)
		}
	}
}

// P5.3: Alike of graphs that are changed a little, held against all pairings of their variables.
func TestAlikeOfMany(t *testing.T) {
	trues, falses := 0, 0
	for seed := range 12000 {
		d := dice(seed)
		a := d.graph(1 + d.below(7))
		b, _ := d.spread(a, 2)
		for range d.below(5) {
			d.change(b)
		}
		if len(metVars(a)) > 5 || len(metVars(b)) > 5 {
			continue
		}
		want := paired(a, b)
		wantAlike(t, a, b, want)
		if want {
			trues++
		} else {
			falses++
		}
	}
	if trues < 3000 || falses < 3000 {
		t.Errorf("%d alike, %d not", trues, falses)
	}
}

// P5.1, P5.2: greater graphs, with many alike nodes and with few.
func TestGreaterGraphs(t *testing.T) {
	for seed := range 60 {
		d := dice(seed)
		g := d.graph(400)
		wantAll(t, g, rounds(g))
		more, _ := d.spread(g, 3)
		wantAll(t, more, rounds(more))
		wantAlike(t, g, more, true)
	}
	for seed := range 4 {
		d := dice(seed)
		var g api.Graph
		for range most {
			n := api.Node{Kind: 4, Name: "f"}
			for range 8 {
				n.Args = append(n.Args, d.below(most))
			}
			g.Nodes = append(g.Nodes, n)
		}
		g.Roots = []int{d.below(most), 0}
		wantAll(t, g, make([]int, most))
		g.Nodes[d.below(most)] = node("a")
		wantAll(t, g, rounds(g))
	}
}

// roomy is a list with the same items, and with spare room that is filled with 77.
func roomy(list []int) []int {
	out := append(make([]int, 0, len(list)+3), list...)
	for i := len(out); i < cap(out); i++ {
		out[:cap(out)][i] = 77
	}
	return out
}

// roomyGraph is a graph all of whose lists have spare room with something in it.
func roomyGraph(g api.Graph) api.Graph {
	out := api.Graph{Nodes: make([]api.Node, len(g.Nodes), len(g.Nodes)+3), Roots: roomy(g.Roots)}
	for i, n := range g.Nodes {
		n.Args = roomy(n.Args)
		out.Nodes[i] = n
	}
	for i := len(g.Nodes); i < cap(out.Nodes); i++ {
		out.Nodes[:cap(out.Nodes)][i] = api.Node{Kind: 77, Name: "spare", Num: 77, Args: []int{77}}
	}
	return out
}

// whole is a graph with the spare room of its lists as items, in memory of its own.
func whole(g api.Graph) api.Graph {
	out := clone(api.Graph{Nodes: g.Nodes[:cap(g.Nodes)], Roots: g.Roots[:cap(g.Roots)]})
	for i, n := range g.Nodes[:cap(g.Nodes)] {
		out.Nodes[i].Args = slices.Clone(n.Args[:cap(n.Args)])
	}
	return out
}

// overwrite puts other things into a graph, its spare room too.
func overwrite(g api.Graph) {
	for i := range g.Nodes[:cap(g.Nodes)] {
		n := &g.Nodes[:cap(g.Nodes)][i]
		overwriteList(n.Args)
		*n = api.Node{Kind: -5, Name: "over", Num: -5, Args: []int{-5}}
	}
	overwriteList(g.Roots)
}

func overwriteList(list []int) {
	list = list[:cap(list)]
	for i := range list {
		list[i] = -5
	}
}

// answers is what the calls that answer lists answer of a graph.
type answers struct {
	classes, named []int
	quotient       api.Graph
}

func calls(g api.Graph) answers {
	var out answers
	out.classes, _ = bisim.Classes(g)
	out.named, _ = bisim.Named(g)
	out.quotient, _ = bisim.Quotient(g)
	bisim.Same(g, 0, len(g.Nodes)-1)
	bisim.Alike(g, g)
	return out
}

func (a answers) clone() answers {
	return answers{slices.Clone(a.classes), slices.Clone(a.named), clone(a.quotient)}
}

func (a answers) equal(b answers) bool {
	return slices.Equal(a.classes, b.classes) && slices.Equal(a.named, b.named) && equal(a.quotient, b.quotient)
}

func (a answers) overwrite() {
	overwriteList(a.classes)
	overwriteList(a.named)
	overwrite(a.quotient)
}

// P5.4: no call changes what is handed in, its spare room included, be it taken or refused.
func TestHandedInStays(t *testing.T) {
	for seed := range 3000 {
		d := dice(seed)
		g := roomyGraph(d.graph(9))
		if seed%5 == 0 && len(g.Nodes) > 0 {
			g.Nodes[d.below(len(g.Nodes))].Num = 1 << 60
		}
		before := whole(g)
		calls(g)
		other := roomyGraph(d.graph(9))
		otherBefore := whole(other)
		bisim.Alike(g, other)
		bisim.Alike(other, g)
		if !equal(whole(g), before) || !equal(whole(other), otherBefore) {
			t.Fatalf("%v and %v are now %v and %v", before, otherBefore, whole(g), whole(other))
		}
	}
}

// P5.4: what is answered is as it was when what was handed in is written over, and the other way round.
func TestAnswersAreNewMemory(t *testing.T) {
	for seed := range 3000 {
		d := dice(seed)
		// Each second graph is a least one already, which might be handed back as it is.
		g := d.graph(9)
		if seed%2 == 1 {
			g = least(g, classes(g))
		}
		g = roomyGraph(g)
		first, before := calls(g), whole(g)
		want := first.clone()
		again := calls(g)
		if !again.equal(want) {
			t.Fatalf("answers %v and %v of one graph", again, want)
		}
		again.overwrite()
		if !equal(whole(g), before) {
			t.Fatalf("an answer shares memory with %v", before)
		}
		if !calls(g).equal(want) {
			t.Fatalf("another answer of %v when answers are written over", g)
		}
		overwrite(g)
		if !first.equal(want) {
			t.Fatalf("answers %v were %v", first, want)
		}
	}
}

// R6: no two lists of one answer share memory, spare room included.
func TestListsOfOneAnswer(t *testing.T) {
	for seed := range 1000 {
		d := dice(seed)
		q := calls(d.graph(12)).quotient
		lists := [][]int{q.Roots}
		for _, n := range q.Nodes {
			lists = append(lists, n.Args)
		}
		for i, l := range lists {
			for k := range l[:cap(l)] {
				l[:cap(l)][k] = 1000 + i
			}
		}
		for i, l := range lists {
			for _, got := range l[:cap(l)] {
				if got != 1000+i {
					t.Fatalf("two lists of one answer share memory: %v", q)
				}
			}
		}
	}
}

// P5.4: one list that stands in several places of what is handed in is several in the answer.
func TestSharedLists(t *testing.T) {
	list := []int{0, 1, 0}
	g := api.Graph{Nodes: []api.Node{{Kind: 4, Name: "f", Args: list}, {Kind: 4, Name: "g", Args: list}}, Roots: list}
	q, err := bisim.Quotient(g)
	if err != nil || !equal(q, read("f(0,1,0) g(0,1,0)", 0, 1, 0)) {
		t.Fatalf("Quotient = %v, %v", q, err)
	}
	q.Roots[0], q.Nodes[0].Args[1] = 1, 0
	if !equal(q, read("f(0,0,0) g(0,1,0)", 1, 1, 0)) || !slices.Equal(list, []int{0, 1, 0}) {
		t.Errorf("Quotient = %v, the list handed in %v", q, list)
	}
}

// held is how many bytes are in use when all that nobody holds any more is given back.
func held() uint64 {
	var m runtime.MemStats
	runtime.GC()
	runtime.ReadMemStats(&m)
	return m.HeapAlloc
}

// P5.4: an answer's names are new memory: names that are cut out of long sources don't hold the sources.
func TestNamesAreNewMemory(t *testing.T) {
	before := held()
	out := api.Graph{}
	for n := range 32 {
		source := strings.Repeat("name"+strconv.Itoa(n)+" ", 1<<17)
		name, _, _ := strings.Cut(source, " ")
		q, err := bisim.Quotient(api.Graph{Nodes: []api.Node{{Kind: 4, Name: name, Args: []int{1}}, {Kind: 2, Name: name}}, Roots: []int{0}})
		if err != nil {
			t.Fatal(err)
		}
		out.Nodes = append(out.Nodes, q.Nodes...)
	}
	if after := held(); after > before+1<<22 {
		t.Errorf("%d bytes are held for short names", after-before)
	}
	// The answers are asked behind it, so that they are alive while the bytes are counted.
	if out.Nodes[0].Name != "name0" || out.Nodes[len(out.Nodes)-1].Name != "name31" {
		t.Error("other names")
	}
}

// P5.4: nothing of what is handed in is kept from call to call.
func TestNothingIsKept(t *testing.T) {
	calls(chain(most-1, 8, "a"))
	before := held()
	for n := range 40 {
		calls(chain(most-1-n, 8, "a"))
	}
	if after := held(); after > before+1<<20 {
		t.Errorf("%d bytes are held", after-before)
	}
}
