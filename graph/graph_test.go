package graph_test

import (
	"math"
	"regexp"
	"runtime"
	"slices"
	"strconv"
	"strings"
	"testing"

	"tendril/api"
	"tendril/graph"
)

// The limits are spelt as numbers here, apart from the program.
const (
	most  = 4096    // nodes, and roots
	great = 1 << 50 // an integer term
)

// node is a node from a short text: X a variable, a an atom, -7 an integer, f(1,2) a compound.
func node(s string) api.Node {
	name, rest, comp := strings.Cut(s, "(")
	if comp {
		n := api.Node{Kind: 4, Name: name}
		for _, a := range strings.FieldsFunc(rest, func(r rune) bool { return r == ',' || r == ')' }) {
			number, err := strconv.Atoi(a)
			if err != nil {
				panic(err)
			}
			n.Args = append(n.Args, number)
		}
		return n
	}
	if number, err := strconv.Atoi(s); err == nil {
		return api.Node{Kind: 3, Num: number}
	}
	if s[0] >= 'A' && s[0] <= 'Z' {
		return api.Node{Kind: 1}
	}
	return api.Node{Kind: 2, Name: s}
}

// read is a graph from its nodes, with blanks between, and its roots.
func read(nodes string, roots ...int) api.Graph {
	g := api.Graph{Roots: roots}
	for _, s := range strings.Fields(nodes) {
		g.Nodes = append(g.Nodes, node(s))
	}
	return g
}

// times is n nodes of one kind, with roots.
func times(n int, s string, roots ...int) api.Graph {
	g := api.Graph{Roots: roots}
	for range n {
		g.Nodes = append(g.Nodes, node(s))
	}
	return g
}

// noughts is n roots, each the node 0.
func noughts(n int) []int { return make([]int, n) }

// chain is n compounds, each with the next node as all of its k arguments, and the node that ends them.
func chain(n, k int, last string) api.Graph {
	g := api.Graph{Roots: []int{0}}
	for i := range n {
		g.Nodes = append(g.Nodes, api.Node{Kind: 4, Name: "f", Args: slices.Repeat([]int{i + 1}, k)})
	}
	g.Nodes = append(g.Nodes, node(last))
	return g
}

// equal is what Same must tell, spelt out apart from the program.
func equal(a, b api.Graph) bool {
	if len(a.Nodes) != len(b.Nodes) || !slices.Equal(a.Roots, b.Roots) {
		return false
	}
	for i, n := range a.Nodes {
		m := b.Nodes[i]
		if n.Kind != m.Kind || n.Name != m.Name || n.Num != m.Num || !slices.Equal(n.Args, m.Args) {
			return false
		}
	}
	return true
}

// isName is the document's rule for names.
var isName = regexp.MustCompile(`\A[!-~]{1,32}\z`).MatchString

// good is the chapter's table of nodes.
func good(n api.Node, nodes int) bool {
	inside := true
	for _, a := range n.Args {
		inside = inside && 0 <= a && a < nodes
	}
	switch n.Kind {
	case 1:
		return n.Name == "" && n.Num == 0 && len(n.Args) == 0
	case 2:
		return isName(n.Name) && n.Num == 0 && len(n.Args) == 0
	case 3:
		return n.Name == "" && -great <= n.Num && n.Num <= great && len(n.Args) == 0
	case 4:
		return isName(n.Name) && n.Num == 0 && 1 <= len(n.Args) && len(n.Args) <= 8 && inside
	}
	return false
}

// checked is the code and the place that Check must tell; code 0 of a good graph.
func checked(g api.Graph) (api.Errno, int) {
	if len(g.Nodes) > most {
		return 41, len(g.Nodes)
	}
	if len(g.Roots) > most {
		return 42, len(g.Roots)
	}
	for i, n := range g.Nodes {
		if !good(n, len(g.Nodes)) {
			return 40, i
		}
	}
	for i, r := range g.Roots {
		if r < 0 || r >= len(g.Nodes) {
			return 43, i
		}
	}
	return 0, 0
}

// met is the order of meeting: one goes on where the walk stands, and back to where an argument is left.
func met(g api.Graph) []int {
	type stand struct{ node, next int }
	var out []int
	for _, r := range g.Roots {
		if slices.Contains(out, r) {
			continue
		}
		out = append(out, r)
		walk := []stand{{r, 0}}
		for len(walk) > 0 {
			top := &walk[len(walk)-1]
			args := g.Nodes[top.node].Args
			if top.next == len(args) {
				walk = walk[:len(walk)-1]
				continue
			}
			to := args[top.next]
			top.next++
			if !slices.Contains(out, to) {
				out = append(out, to)
				walk = append(walk, stand{to, 0})
			}
		}
	}
	return out
}

// variables are those of the nodes that are variables.
func variables(g api.Graph, nodes []int) []int {
	var out []int
	for _, n := range nodes {
		if g.Nodes[n].Kind == 1 {
			out = append(out, n)
		}
	}
	return out
}

// trimmed is the graph of what is met: each number is the place in the order of meeting.
func trimmed(g api.Graph) api.Graph {
	order := met(g)
	var out api.Graph
	for _, n := range order {
		m := g.Nodes[n]
		m.Args = nil
		for _, a := range g.Nodes[n].Args {
			m.Args = append(m.Args, slices.Index(order, a))
		}
		out.Nodes = append(out.Nodes, m)
	}
	for _, r := range g.Roots {
		out.Roots = append(out.Roots, slices.Index(order, r))
	}
	return out
}

// cyclic tells whether a node that is met is met again from its own arguments.
func cyclic(g api.Graph) bool {
	return slices.ContainsFunc(met(g), func(n int) bool {
		return slices.Contains(met(api.Graph{Nodes: g.Nodes, Roots: g.Nodes[n].Args}), n)
	})
}

// wantFault stops the test unless err is a bare fault of that code and place, without a cause.
func wantFault(t *testing.T, call string, err error, code api.Errno, at int) {
	t.Helper()
	f, ok := err.(*api.Fault)
	if !ok || f == nil {
		t.Fatalf("%s: %v, want a fault of code %d at %d", call, err, code, at)
	}
	if f.Code != code || f.At != at || f.Name != "" || f.Cause != nil {
		t.Fatalf("%s: %+v, want code %d at %d", call, *f, code, at)
	}
}

// wantJoin stops the test unless err tells that the graph of that number isn't good, and why.
func wantJoin(t *testing.T, err error, number int, code api.Errno, at int) {
	t.Helper()
	f, ok := err.(*api.Fault)
	if !ok || f == nil {
		t.Fatalf("Join: %v, want a fault of code 44 at %d", err, number)
	}
	if f.Code != 44 || f.At != number || f.Name != "" {
		t.Fatalf("Join: %+v, want code 44 at %d", *f, number)
	}
	wantFault(t, "cause of Join", f.Cause, code, at)
}

// wantRefused stops the test unless each call refuses the graph by this fault, with nothing beside it.
func wantRefused(t *testing.T, g api.Graph, code api.Errno, at int) {
	t.Helper()
	wantFault(t, "Check", graph.Check(g), code, at)
	list, err := graph.Reach(g)
	wantFault(t, "Reach", err, code, at)
	vars, err := graph.Vars(g)
	wantFault(t, "Vars", err, code, at)
	trim, err := graph.Trim(g)
	wantFault(t, "Trim", err, code, at)
	holds, err := graph.Cyclic(g)
	wantFault(t, "Cyclic", err, code, at)
	join, err := graph.Join(g)
	wantJoin(t, err, 0, code, at)
	if len(list) > 0 || len(vars) > 0 || holds || !equal(trim, api.Graph{}) || !equal(join, api.Graph{}) {
		t.Fatalf("beside an error: %v, %v, %v, %v, %v", list, vars, trim, holds, join)
	}
	for _, n := range []int{-1, 0, 1, len(g.Nodes) - 1} {
		for _, path := range [][]int{nil, {0}, {1}} {
			if to, ok := graph.At(g, n, path); to != 0 || ok {
				t.Fatalf("At(%d, %v) of a graph that isn't good = %d, %v", n, path, to, ok)
			}
		}
	}
}

// wantGood stops the test unless each call takes the graph and answers what the chapter says.
func wantGood(t *testing.T, g api.Graph) {
	t.Helper()
	if err := graph.Check(g); err != nil {
		t.Fatalf("Check: %v", err)
	}
	order := met(g)
	if got, err := graph.Reach(g); err != nil || !slices.Equal(got, order) {
		t.Fatalf("Reach of %v = %v, %v, want %v", g, got, err, order)
	}
	if got, err := graph.Vars(g); err != nil || !slices.Equal(got, variables(g, order)) {
		t.Fatalf("Vars of %v = %v, %v", g, got, err)
	}
	want := trimmed(g)
	got, err := graph.Trim(g)
	if err != nil || !equal(got, want) {
		t.Fatalf("Trim of %v = %v, %v, want %v", g, got, err, want)
	}
	if again, err := graph.Trim(got); err != nil || !equal(again, got) {
		t.Fatalf("Trim of Trim of %v = %v, %v", g, again, err)
	}
	if got, err := graph.Join(g); err != nil || !equal(got, g) {
		t.Fatalf("Join of %v alone = %v, %v", g, got, err)
	}
	if !graph.Same(g, g) {
		t.Fatalf("%v isn't the same as itself", g)
	}
}

// wantCyclic stops the test unless Cyclic answers this.
func wantCyclic(t *testing.T, g api.Graph, want bool) {
	t.Helper()
	if got, err := graph.Cyclic(g); err != nil || got != want {
		t.Fatalf("Cyclic of %v = %v, %v, want %v", g, got, err, want)
	}
}

// P4.1 to P4.3: the chapter's examples, as they stand there.
func TestExamples(t *testing.T) {
	loop := read("f(1,0) X", 0)
	wantGood(t, loop)
	if got, err := graph.Reach(loop); err != nil || !slices.Equal(got, []int{0, 1}) {
		t.Errorf("Reach = %v, %v", got, err)
	}
	if got, err := graph.Vars(loop); err != nil || !slices.Equal(got, []int{1}) {
		t.Errorf("Vars = %v, %v", got, err)
	}
	wantCyclic(t, loop, true)
	wantRefused(t, read("f(2)"), api.ErrGraph, 0)
	wantRefused(t, read("a", 1), api.ErrRoot, 0)
	wantRefused(t, read("f()"), api.ErrGraph, 0)
	g, err := graph.Trim(read("a X f(3,1) f(1,0) b", 2, 1))
	if err != nil || !equal(g, read("f(1,2) f(2,3) X a", 0, 2)) {
		t.Errorf("Trim = %v, %v", g, err)
	}
	for _, x := range []struct {
		node int
		path []int
		want int
		ok   bool
	}{{0, []int{1, 1, 0}, 1, true}, {0, []int{2}, 0, false}, {1, nil, 1, true}, {1, []int{0}, 0, false}} {
		if to, ok := graph.At(loop, x.node, x.path); to != x.want || ok != x.ok {
			t.Errorf("At(%d, %v) = %d, %v", x.node, x.path, to, ok)
		}
	}
	g, err = graph.Join(read("X", 0), read("f(1) X", 0, 1))
	if err != nil || !equal(g, read("X f(2) X", 0, 1, 2)) {
		t.Errorf("Join = %v, %v", g, err)
	}
}

// P4.1: the numbers of nodes and of roots, at their edges.
func TestCheckSizes(t *testing.T) {
	for _, s := range []string{"X", "a", "7", "f(0)"} {
		for _, nodes := range []int{1, 2, most - 1, most} {
			wantGood(t, times(nodes, s))
			for _, roots := range []int{1, 2, most - 1, most} {
				wantGood(t, times(nodes, s, noughts(roots)...))
			}
			for _, roots := range []int{most + 1, most + 2, 2 * most, 1 << 20} {
				wantRefused(t, times(nodes, s, noughts(roots)...), api.ErrRoots, roots)
			}
		}
		for _, nodes := range []int{most + 1, most + 2, 2 * most, 1 << 18} {
			wantRefused(t, times(nodes, s), api.ErrNodes, nodes)
			wantRefused(t, times(nodes, s, 0), api.ErrNodes, nodes)
		}
	}
	wantGood(t, api.Graph{})
	wantGood(t, api.Graph{Nodes: []api.Node{}, Roots: []int{}})
	wantRefused(t, api.Graph{Roots: []int{0}}, api.ErrRoot, 0)
	wantRefused(t, api.Graph{Roots: noughts(most)}, api.ErrRoot, 0)
	wantRefused(t, api.Graph{Roots: noughts(most + 1)}, api.ErrRoots, most+1)
}

// wantNode stops the test unless a node is good, or is refused at its number, wherever it stands among good ones.
func wantNode(t *testing.T, n api.Node, isGood bool) {
	t.Helper()
	for at := range 4 {
		g := read("X f(0,1) a 7", 1, 1, 3)
		g.Nodes[at] = n
		if isGood {
			wantGood(t, g)
		} else {
			wantRefused(t, g, api.ErrGraph, at)
		}
	}
}

// P4.1: each row of the table, with each field in turn as another row has it.
func TestCheckFields(t *testing.T) {
	lists := [][]int{nil, {}, make([]int, 0, 4), {0}, {3, 2, 1}}
	for kind := -3; kind <= 8; kind++ {
		for _, name := range []string{"", "a", "[]", ".", "a b", strings.Repeat("x", 32), strings.Repeat("x", 33)} {
			for _, num := range []int{0, 1, -1, great, -great} {
				for _, args := range lists {
					n := api.Node{Kind: kind, Name: name, Num: num, Args: args}
					wantNode(t, n, good(n, 4))
				}
			}
		}
	}
	for _, kind := range []int{math.MinInt, -1 << 32, -1, 0, 5, 6, 1<<32 + 1, 1<<32 + 4, 257, 260, math.MaxInt} {
		for _, n := range []api.Node{node("X"), node("a"), node("7"), node("f(0)")} {
			n.Kind = kind
			wantNode(t, n, false)
		}
	}
}

// P4.1: the edges of Num, of an integer and of what is none.
func TestCheckNum(t *testing.T) {
	for _, num := range []int{0, 1, -1, great - 1, great, great + 1, -great + 1, -great, -great - 1, 1 << 51, math.MaxInt, math.MinInt} {
		n := api.Node{Kind: 3, Num: num}
		wantNode(t, n, -great <= num && num <= great)
		for _, n := range []api.Node{node("X"), node("a"), node("f(0)")} {
			n.Num = num
			wantNode(t, n, num == 0)
		}
	}
}

// P4.1: names of atoms and of compounds: their lengths, each byte; variables and integers have none.
func TestCheckNames(t *testing.T) {
	list := []string{"", strings.Repeat("~", 32), strings.Repeat("!", 33), "é", "a\x00", " a", strings.Repeat("x", 1<<16)}
	for b := range 256 {
		list = append(list, string([]byte{byte(b)}), string([]byte{'a', byte(b)}))
	}
	for _, name := range list {
		wantNode(t, api.Node{Kind: 1, Name: name}, name == "")
		wantNode(t, api.Node{Kind: 2, Name: name}, isName(name))
		wantNode(t, api.Node{Kind: 3, Name: name}, name == "")
		wantNode(t, api.Node{Kind: 4, Name: name, Args: []int{3}}, isName(name))
	}
}

// P4.1: a compound's arguments: how many, and which numbers, at each of their places.
func TestCheckArgs(t *testing.T) {
	for k := range 20 {
		wantNode(t, api.Node{Kind: 4, Name: "f", Args: slices.Repeat([]int{3}, k)}, 1 <= k && k <= 8)
		for _, kind := range []int{1, 2, 3} {
			n := api.Node{Kind: kind, Args: slices.Repeat([]int{3}, k)}
			if kind == 2 {
				n.Name = "a"
			}
			wantNode(t, n, k == 0)
		}
	}
	wantNode(t, api.Node{Kind: 4, Name: "f", Args: noughts(1 << 20)}, false)
	for k := 1; k <= 8; k++ {
		for at := range k {
			for _, to := range []int{math.MinInt, -1 << 32, -4, -1, 0, 1, 3, 4, 5, 4095, 4096, 1 << 32, math.MaxInt} {
				args := noughts(k)
				args[at] = to
				wantNode(t, api.Node{Kind: 4, Name: "f", Args: args}, 0 <= to && to <= 3)
			}
		}
	}
	for _, size := range []int{1, 2, most} {
		for _, to := range []int{-1, 0, size - 1, size, size + 1} {
			g := times(size, "X")
			g.Nodes[size-1] = api.Node{Kind: 4, Name: "f", Args: []int{to}}
			if to < 0 || to >= size {
				wantRefused(t, g, api.ErrGraph, size-1)
			} else {
				wantGood(t, g)
			}
		}
	}
}

// P4.1: roots, at each of their places.
func TestCheckRoots(t *testing.T) {
	for _, size := range []int{0, 1, 2, 5, most} {
		for _, to := range []int{math.MinInt, -1 << 32, -1, 0, 1, size - 1, size, size + 1, 1 << 32, math.MaxInt} {
			for at := range 4 {
				g := times(size, "a", noughts(4)...)
				g.Roots[at] = to
				switch {
				case size == 0:
					wantRefused(t, g, api.ErrRoot, 0)
				case to < 0 || to >= size:
					wantRefused(t, g, api.ErrRoot, at)
				default:
					wantGood(t, g)
				}
			}
		}
	}
	last := times(1, "a", noughts(most)...)
	last.Roots[most-1] = 1
	wantRefused(t, last, api.ErrRoot, most-1)
}

// P4.1: of several faults the first in Check's order is told.
func TestCheckOrder(t *testing.T) {
	bad := api.Node{Kind: 9}
	all := api.Graph{Nodes: slices.Repeat([]api.Node{bad}, most+1), Roots: slices.Repeat([]int{-1}, most+3)}
	wantRefused(t, all, api.ErrNodes, most+1)
	all.Nodes = all.Nodes[:most]
	wantRefused(t, all, api.ErrRoots, most+3)
	all.Roots = all.Roots[:most]
	wantRefused(t, all, api.ErrGraph, 0)
	all.Nodes = times(most, "X").Nodes
	wantRefused(t, all, api.ErrRoot, 0)
	for first := range 5 {
		g := read("X f(0,1) a 7 g(2)", 0, 4, 2, 1, 3)
		for i := first; i < 5; i++ {
			g.Nodes[i] = bad
			g.Roots[i] = 5 + i
		}
		wantRefused(t, g, api.ErrGraph, first)
		g.Nodes = read("X f(0,1) a 7 g(2)").Nodes
		wantRefused(t, g, api.ErrRoot, first)
	}
	// A node that isn't met from the roots must be good, too.
	wantRefused(t, read("a f(9) X", 0), api.ErrGraph, 1)
	wantRefused(t, read("a f(9) X", 9), api.ErrGraph, 1)
	wantRefused(t, read("a f()"), api.ErrGraph, 1)
}

// P4.2: graphs whose order of meeting, variables and circles are told by hand.
func TestReachByHand(t *testing.T) {
	for i, x := range []struct {
		g     api.Graph
		reach []int
		vars  []int
		holds bool
	}{
		{read(""), nil, nil, false},
		{read("X"), nil, nil, false},
		{read("f(0)"), nil, nil, false},
		{read("X", 0), []int{0}, []int{0}, false},
		{read("f(0)", 0), []int{0}, nil, true},
		{read("X Y", 1, 0, 1), []int{1, 0}, []int{1, 0}, false},
		{read("f(1,2) g(2) X", 0), []int{0, 1, 2}, []int{2}, false},
		{read("f(2,1) g(2) X", 0), []int{0, 2, 1}, []int{2}, false},
		// What is met from the first argument comes ahead of the second one.
		{read("f(1,2) g(3,4) h(4,3) X Y", 0), []int{0, 1, 3, 4, 2}, []int{3, 4}, false},
		{read("f(2,1) g(3,4) h(4,3) X Y", 0), []int{0, 2, 4, 3, 1}, []int{4, 3}, false},
		{read("f(1,2) g(2) h(0)", 0), []int{0, 1, 2}, nil, true},
		{read("f(1,2) g(2) h(0)", 2), []int{2, 0, 1}, nil, true},
		{read("f(1,2) g(2) h(0)", 1), []int{1, 2, 0}, nil, true},
		// A circle that isn't met is none.
		{read("a f(1) g(1,0) h(0)", 3), []int{3, 0}, nil, false},
		{read("a f(1) g(1,0) h(0)", 3, 2), []int{3, 0, 2, 1}, nil, true},
		// A circle that is only met behind what was left already.
		{read("f(1,2) g(3) h(3,4) a k(4)", 0), []int{0, 1, 3, 2, 4}, nil, true},
		// One node twice is no circle.
		{read("f(1,1,1) g(2,2) a", 0, 1, 0, 2), []int{0, 1, 2}, nil, false},
		{read("f(1,2) g(2) h(3) a", 0), []int{0, 1, 2, 3}, nil, false},
	} {
		wantGood(t, x.g)
		if got, err := graph.Reach(x.g); err != nil || !slices.Equal(got, x.reach) {
			t.Errorf("row %d: Reach = %v, %v, want %v", i, got, err, x.reach)
		}
		if got, err := graph.Vars(x.g); err != nil || !slices.Equal(got, x.vars) {
			t.Errorf("row %d: Vars = %v, %v, want %v", i, got, err, x.vars)
		}
		wantCyclic(t, x.g, x.holds)
	}
}

// P4.2, P1: the deepest and widest graphs, which have more paths than could be gone through one by one.
func TestGreatestGraphs(t *testing.T) {
	for k := 1; k <= 8; k++ {
		g := chain(most-1, k, "X")
		wantGood(t, g)
		wantCyclic(t, g, false)
		if vars, err := graph.Vars(g); err != nil || !slices.Equal(vars, []int{most - 1}) {
			t.Errorf("Vars = %v, %v", vars, err)
		}
		// The ring closes at the first node, in the middle, at the last.
		for _, to := range []int{0, 1, most / 2, most - 1} {
			g.Nodes[most-1] = api.Node{Kind: 4, Name: "f", Args: []int{to}}
			wantCyclic(t, g, true)
		}
		wantGood(t, g)
		// It isn't met: the root is an atom ahead of it.
		g.Nodes[0] = node("a")
		wantCyclic(t, g, false)
	}
	// All nodes are met from the end, each one a root.
	g := times(most, "X")
	for i := range most {
		g.Roots = append(g.Roots, most-1-i)
	}
	wantGood(t, g)
	wantCyclic(t, g, false)
}

// P4.2: whichever node of a tower of nodes leads back, and to whichever node, it is a circle just if it is to itself or above.
func TestCyclicTowers(t *testing.T) {
	const size = 7
	for from := range size {
		for to := range size {
			g := chain(size-1, 1, "a")
			g.Nodes[from] = api.Node{Kind: 4, Name: "g", Args: append(slices.Clone(g.Nodes[from].Args), to)}
			for root := range size {
				g.Roots = []int{root}
				wantGood(t, g)
				wantCyclic(t, g, to <= from && root <= from)
			}
		}
	}
}

// P4.3: steps at the edges, from each kind of node.
func TestAt(t *testing.T) {
	g := read("f(1,2,3,4,5,6,7,0) a X 7 -7 g(5) h(0,5) []", 3)
	for n := range 8 {
		if to, ok := graph.At(g, n, nil); to != n || !ok {
			t.Errorf("At(%d, nil) = %d, %v", n, to, ok)
		}
		if to, ok := graph.At(g, n, []int{}); to != n || !ok {
			t.Errorf("At(%d, []) = %d, %v", n, to, ok)
		}
	}
	for _, n := range []int{math.MinInt, -1 << 32, -8, -1, 8, 9, 4096, 1 << 32, math.MaxInt} {
		for _, path := range [][]int{nil, {}, {0}, {-1}, {8}} {
			if to, ok := graph.At(g, n, path); to != 0 || ok {
				t.Errorf("At(%d, %v) = %d, %v", n, path, to, ok)
			}
		}
	}
	for n := range 8 {
		args := g.Nodes[n].Args
		for _, step := range []int{math.MinInt, -8, -1, 0, 1, 2, 7, 8, 9, 1 << 32, math.MaxInt} {
			want, ok := 0, step >= 0 && step < len(args)
			if ok {
				want = args[step]
			}
			if to, got := graph.At(g, n, []int{step}); to != want || got != ok {
				t.Errorf("At(%d, [%d]) = %d, %v, want %d, %v", n, step, to, got, want, ok)
			}
			// The same as the last step of a longer path, and as one that a good step follows.
			if n == 0 {
				if to, got := graph.At(g, 6, []int{0, 7, 7, step}); to != want || got != ok {
					t.Errorf("At(6, [0 7 7 %d]) = %d, %v", step, to, got)
				}
			}
			if !ok {
				if to, got := graph.At(g, n, []int{step, 0}); to != 0 || got {
					t.Errorf("At(%d, [%d 0]) = %d, %v", n, step, to, got)
				}
			}
		}
	}
	if to, ok := graph.At(api.Graph{}, 0, nil); to != 0 || ok {
		t.Errorf("At of the empty graph = %d, %v", to, ok)
	}
}

// P4.3: long paths, round circles and down the greatest chain.
func TestAtLong(t *testing.T) {
	ring := read("f(1,0) g(2) h(0,3) X")
	path := noughts(3 * 100000)
	if to, ok := graph.At(ring, 0, path); to != 0 || !ok {
		t.Errorf("round the ring: %d, %v", to, ok)
	}
	if to, ok := graph.At(ring, 1, append(path, 0, 1)); to != 3 || !ok {
		t.Errorf("round the ring and out: %d, %v", to, ok)
	}
	if to, ok := graph.At(ring, 0, append(path, 2)); to != 0 || ok {
		t.Errorf("round the ring and beside it: %d, %v", to, ok)
	}
	g := chain(most-1, 8, "a")
	down := slices.Repeat([]int{7}, most-1)
	if to, ok := graph.At(g, 0, down); to != most-1 || !ok {
		t.Errorf("down the chain: %d, %v", to, ok)
	}
	if to, ok := graph.At(g, 1, down); to != 0 || ok {
		t.Errorf("below the chain: %d, %v", to, ok)
	}
}

// joined is the graph that Join must answer of good graphs that aren't too great together.
func joined(gs []api.Graph) api.Graph {
	var out api.Graph
	for _, g := range gs {
		ahead := len(out.Nodes)
		for _, n := range g.Nodes {
			m := n
			m.Args = nil
			for _, a := range n.Args {
				m.Args = append(m.Args, ahead+a)
			}
			out.Nodes = append(out.Nodes, m)
		}
		for _, r := range g.Roots {
			out.Roots = append(out.Roots, ahead+r)
		}
	}
	return out
}

// wantJoined stops the test unless Join answers the graphs one behind the other.
func wantJoined(t *testing.T, gs ...api.Graph) {
	t.Helper()
	want := joined(gs)
	got, err := graph.Join(gs...)
	if err != nil || !equal(got, want) {
		t.Fatalf("Join of %v = %v, %v, want %v", gs, got, err, want)
	}
	if err := graph.Check(got); err != nil {
		t.Fatalf("Join isn't good: %v", err)
	}
}

// P4.3: Join of no graph, of one and of many.
func TestJoin(t *testing.T) {
	if g, err := graph.Join(); err != nil || !equal(g, api.Graph{}) {
		t.Errorf("Join of none = %v, %v", g, err)
	}
	if g, err := graph.Join([]api.Graph{}...); err != nil || !equal(g, api.Graph{}) {
		t.Errorf("Join of an empty list = %v, %v", g, err)
	}
	loop, three, none := read("f(1,0) X", 0), read("a g(2,1,0) 7", 2, 1, 2), api.Graph{}
	wantJoined(t, none)
	wantJoined(t, none, none, none)
	wantJoined(t, loop)
	wantJoined(t, loop, loop)
	wantJoined(t, loop, three)
	wantJoined(t, three, loop)
	wantJoined(t, none, loop, none, three, none)
	wantJoined(t, three, read("X"), three, loop, loop)
	// Variables of unlike graphs are unlike, and of one that is handed in twice.
	g, err := graph.Join(loop, loop)
	if err != nil || !equal(g, read("f(1,0) X f(3,2) X", 0, 2)) {
		t.Errorf("Join of one graph twice = %v, %v", g, err)
	}
}

// P4.3: so many nodes and roots as are allowed together, and one more; Join's own order of faults.
func TestJoinSizes(t *testing.T) {
	half, one := times(most/2, "X", noughts(most/2)...), times(1, "f(0)", 0)
	wantJoined(t, half, half)
	wantJoined(t, half, api.Graph{}, half, api.Graph{})
	wantJoined(t, slices.Repeat([]api.Graph{one}, most)...)
	wantJoined(t, times(most, "f(0,4095)"))
	wantJoined(t, api.Graph{}, times(most, "X"), api.Graph{})
	wantJoined(t, times(most-1, "f(4094)", noughts(most-1)...), one)
	bare, roots := times(1, "X"), times(1, "X", noughts(most)...)
	wantJoined(t, bare, roots)
	many := slices.Repeat([]api.Graph{times(most, "X", noughts(most)...)}, 40)
	for _, x := range []struct {
		gs   []api.Graph
		code api.Errno
		at   int
	}{
		{[]api.Graph{half, half, bare}, api.ErrNodes, most + 1},
		{[]api.Graph{bare, half, half}, api.ErrNodes, most + 1},
		{[]api.Graph{half, half, one}, api.ErrNodes, most + 1},
		{[]api.Graph{times(most, "X"), bare}, api.ErrNodes, most + 1},
		{slices.Repeat([]api.Graph{one}, most+1), api.ErrNodes, most + 1},
		{slices.Repeat([]api.Graph{bare}, 3*most), api.ErrNodes, 3 * most},
		{many, api.ErrNodes, 40 * most},
		{[]api.Graph{roots, one}, api.ErrRoots, most + 1},
		{[]api.Graph{one, bare, roots}, api.ErrRoots, most + 1},
		{[]api.Graph{roots, roots, roots}, api.ErrRoots, 3 * most},
	} {
		g, err := graph.Join(x.gs...)
		wantFault(t, "Join", err, x.code, x.at)
		if !equal(g, api.Graph{}) {
			t.Fatalf("beside an error: %d nodes, %d roots", len(g.Nodes), len(g.Roots))
		}
	}
}

// P4.3: the first graph that isn't good is told with its fault, ahead of what they are together.
func TestJoinRefused(t *testing.T) {
	full := times(most, "X", noughts(most)...)
	for _, x := range []struct {
		bad  api.Graph
		code api.Errno
		at   int
	}{
		{times(most+1, "X"), api.ErrNodes, most + 1},
		{times(1, "X", noughts(most+1)...), api.ErrRoots, most + 1},
		{read("X f(2)", 7), api.ErrGraph, 1},
		{read("X f(1)", 0, 1, 2), api.ErrRoot, 2},
	} {
		for _, other := range []api.Graph{{}, read("f(0)", 0), full} {
			for at := range 4 {
				gs := slices.Repeat([]api.Graph{other}, 4)
				gs[at] = x.bad
				g, err := graph.Join(gs...)
				wantJoin(t, err, at, x.code, x.at)
				if !equal(g, api.Graph{}) {
					t.Fatalf("beside an error: %v", g)
				}
				for i := at + 1; i < 4; i++ {
					gs[i] = read("a", 3)
				}
				_, err = graph.Join(gs...)
				wantJoin(t, err, at, x.code, x.at)
			}
		}
	}
}

// P4.3: Same of graphs that are unlike in one thing, good or not.
func TestSame(t *testing.T) {
	list := []api.Graph{
		{}, {Roots: []int{0}}, {Roots: []int{-1}}, {Roots: []int{0, 0}}, {Nodes: make([]api.Node, 1)}, {Nodes: make([]api.Node, 2)},
		read("X"), read("X", 0), read("X", 0, 0), read("X", 1), read("X Y"), read("X Y", 0, 1), read("X Y", 1, 0),
		read("a"), read("b"), read("A a"), read("a A"), read("7"), read("-7"), read("8"), read("0"),
		read("f(0)"), read("g(0)"), read("f(1)"), read("f(0,0)"), read("f(0,1)"), read("f(1,0)"), read("f()"),
		read("f(1,0) X"), read("f(1,0) X", 0), read("f(0,1) X", 0), read("f(0,1) a", 0), read("X f(0,1)", 0),
		{Nodes: []api.Node{{Kind: 1, Name: "a"}}}, {Nodes: []api.Node{{Kind: 1, Num: 7}}}, {Nodes: []api.Node{{Kind: 1, Args: []int{0}}}},
		{Nodes: []api.Node{{Kind: 5}}}, {Nodes: []api.Node{{Kind: -1}}}, {Nodes: []api.Node{{Kind: 2}}}, {Nodes: []api.Node{{Kind: 4}}},
		{Nodes: []api.Node{{Kind: 4, Name: "f", Num: 1, Args: []int{0}}}}, {Nodes: []api.Node{{Kind: 2, Name: "a", Args: []int{0}}}},
		times(most+1, "a"), times(most+2, "a"), times(most, "a"), times(1, "a", noughts(most+1)...),
	}
	for i, a := range list {
		for j, b := range list {
			if got := graph.Same(a, clone(b)); got != (i == j) {
				t.Errorf("Same(%d, %d) = %v", i, j, got)
			}
		}
	}
	// R5: a list that is nil and one that is empty are one.
	a := api.Graph{Nodes: []api.Node{{Kind: 1}}}
	b := api.Graph{Nodes: []api.Node{{Kind: 1, Args: make([]int, 0, 3)}}, Roots: []int{}}
	if !graph.Same(a, b) || !graph.Same(b, a) || !graph.Same(api.Graph{}, api.Graph{Nodes: []api.Node{}, Roots: []int{}}) {
		t.Error("nil and empty lists are told apart")
	}
}

// clone is a graph of its own with the same nodes and roots.
func clone(g api.Graph) api.Graph {
	out := api.Graph{Nodes: slices.Clone(g.Nodes), Roots: slices.Clone(g.Roots)}
	for i := range out.Nodes {
		out.Nodes[i].Args = slices.Clone(out.Nodes[i].Args)
	}
	return out
}

// dice are numbers that look scattered, the same ones in each run.
type dice uint64

func (d *dice) below(n int) int {
	*d = *d*6364136223846793005 + 1442695040888963407
	return int(uint64(*d)>>33) % n
}

// node is a good node of a graph of so many.
func (d *dice) node(nodes int) api.Node {
	switch d.below(7) {
	case 0:
		return api.Node{Kind: 1}
	case 1:
		return api.Node{Kind: 2, Name: []string{"a", "b", "[]"}[d.below(3)]}
	case 2:
		return api.Node{Kind: 3, Num: d.below(5) - 2}
	}
	n := api.Node{Kind: 4, Name: []string{"f", "g", "."}[d.below(3)]}
	for range 1 + d.below(1+d.below(8)) {
		n.Args = append(n.Args, d.below(nodes))
	}
	return n
}

// graph is a good graph.
func (d *dice) graph(most int) api.Graph {
	var g api.Graph
	nodes := d.below(most + 1)
	for range nodes {
		g.Nodes = append(g.Nodes, d.node(nodes))
	}
	for range d.below(5) {
		if nodes > 0 {
			g.Roots = append(g.Roots, d.below(nodes))
		}
	}
	return g
}

// spoil changes some field of a graph of its own, to what may be good or not.
func (d *dice) spoil(g api.Graph) {
	if len(g.Roots) > 0 && d.below(3) == 0 {
		g.Roots[d.below(len(g.Roots))] = d.below(len(g.Nodes)+3) - 1
		return
	}
	if len(g.Nodes) == 0 {
		return
	}
	n := &g.Nodes[d.below(len(g.Nodes))]
	switch d.below(5) {
	case 0:
		n.Kind = d.below(7) - 1
	case 1:
		n.Name = []string{"", "a", "a b"}[d.below(3)]
	case 2:
		n.Num = []int{0, 1, great, great + 1, -great - 1}[d.below(5)]
	case 3:
		n.Args = slices.Repeat([]int{d.below(len(g.Nodes))}, d.below(11))
	default:
		if len(n.Args) > 0 {
			n.Args[d.below(len(n.Args))] = d.below(len(g.Nodes)+3) - 1
		}
	}
}

// P4.1, P4.2: graphs of all shapes, good ones and such as are spoilt in one or more fields.
func TestManyGraphs(t *testing.T) {
	goods, bads, holds := 0, 0, 0
	for seed := range 30000 {
		d := dice(seed)
		g := d.graph(1 + d.below(14))
		if seed%2 == 1 {
			for range 1 + d.below(3) {
				d.spoil(g)
			}
		}
		if code, at := checked(g); code != 0 {
			bads++
			wantRefused(t, g, code, at)
			continue
		}
		goods++
		wantGood(t, g)
		wantCyclic(t, g, cyclic(g))
		if cyclic(g) {
			holds++
		}
	}
	if goods < 10000 || bads < 5000 || holds < 3000 || goods-holds < 3000 {
		t.Errorf("%d good, %d not good, %d with circles", goods, bads, holds)
	}
}

// P4.2: greater graphs, with few arguments, so that some of their nodes aren't met.
func TestGreaterGraphs(t *testing.T) {
	for seed := range 60 {
		d := dice(seed)
		g := d.graph(400)
		wantGood(t, g)
		wantCyclic(t, g, cyclic(g))
	}
}

// label is what a node says beside its arguments' numbers.
type label struct {
	kind, num, args int
	name            string
}

func labelled(n api.Node) label { return label{n.Kind, n.Num, len(n.Args), n.Name} }

// follow is what the path leads to, by the chapter's words.
func follow(g api.Graph, node int, path []int) (int, bool) {
	for _, step := range path {
		if g.Nodes[node].Kind != 4 || step < 0 || step >= len(g.Nodes[node].Args) {
			return 0, false
		}
		node = g.Nodes[node].Args[step]
	}
	return node, true
}

// wantPath stops the test unless a path leads, in two graphs, to nodes that are labelled alike, or in both to none.
func wantPath(t *testing.T, g api.Graph, from int, h api.Graph, there int, path []int) {
	t.Helper()
	want, leads := follow(g, from, path)
	a, ok := graph.At(g, from, path)
	if a != want || ok != leads {
		t.Fatalf("At(%v, %d, %v) = %d, %v, want %d, %v", g, from, path, a, ok, want, leads)
	}
	b, ok := graph.At(h, there, path)
	if ok != leads || leads && labelled(g.Nodes[a]) != labelled(h.Nodes[b]) || !leads && b != 0 {
		t.Fatalf("At(%v, %d, %v) = %d, %v; in %v it is %d, %v", h, there, path, b, ok, g, a, leads)
	}
}

// path is a way from a node that mostly leads on.
func (d *dice) path(g api.Graph, from int) []int {
	var out []int
	for range d.below(12) {
		step := d.below(9) - 1
		if to, ok := follow(g, from, out); ok && len(g.Nodes[to].Args) > 0 && d.below(12) > 0 {
			step = d.below(len(g.Nodes[to].Args))
		}
		out = append(out, step)
	}
	return out
}

// P4.3: a path leads in a Trim, and in a Join, to a node that is labelled as the one to which it leads in the graph itself.
func TestPaths(t *testing.T) {
	for seed := range 4000 {
		d := dice(seed)
		gs := []api.Graph{d.graph(9), d.graph(9), d.graph(9)}
		wantJoined(t, gs...)
		join, err := graph.Join(gs...)
		if err != nil {
			t.Fatal(err)
		}
		nodes, roots := 0, 0
		for _, g := range gs {
			trim, err := graph.Trim(g)
			if err != nil {
				t.Fatal(err)
			}
			for i, r := range g.Roots {
				for range 4 {
					path := d.path(g, r)
					wantPath(t, g, r, trim, trim.Roots[i], path)
					wantPath(t, g, r, join, join.Roots[roots+i], path)
				}
			}
			for n := range g.Nodes {
				wantPath(t, g, n, join, nodes+n, d.path(g, n))
			}
			nodes, roots = nodes+len(g.Nodes), roots+len(g.Roots)
		}
	}
}

// P4.3: Same of graphs and of such as are changed in one field or more.
func TestSameOfMany(t *testing.T) {
	for seed := range 5000 {
		d := dice(seed)
		a := d.graph(6)
		b := clone(a)
		for range d.below(3) {
			d.spoil(b)
		}
		if graph.Same(a, b) != equal(a, b) || graph.Same(b, a) != equal(a, b) {
			t.Fatalf("Same(%v, %v) = %v", a, b, graph.Same(a, b))
		}
	}
}

// roomy is a list with the same items, and with spare room that is filled with 77.
func roomy(list []int) []int {
	out := append(make([]int, 0, len(list)+3), list...)
	for i := len(out); i < cap(out); i++ {
		out[:cap(out)][i] = 77
	}
	return out
}

// roomyGraph is a graph all of whose lists have spare room with something in it.
func roomyGraph(g api.Graph) api.Graph {
	out := api.Graph{Nodes: make([]api.Node, len(g.Nodes), len(g.Nodes)+3), Roots: roomy(g.Roots)}
	for i, n := range g.Nodes {
		n.Args = roomy(n.Args)
		out.Nodes[i] = n
	}
	for i := len(g.Nodes); i < cap(out.Nodes); i++ {
		out.Nodes[:cap(out.Nodes)][i] = api.Node{Kind: 77, Name: "spare", Num: 77, Args: []int{77}}
	}
	return out
}

// whole is a graph with the spare room of its lists as items, in memory of its own.
func whole(g api.Graph) api.Graph {
	out := api.Graph{Nodes: g.Nodes[:cap(g.Nodes)], Roots: g.Roots[:cap(g.Roots)]}
	out = clone(out)
	for i, n := range g.Nodes[:cap(g.Nodes)] {
		out.Nodes[i].Args = slices.Clone(n.Args[:cap(n.Args)])
	}
	return out
}

// overwrite puts other things into a graph, its spare room too.
func overwrite(g api.Graph) {
	for i := range g.Nodes[:cap(g.Nodes)] {
		n := &g.Nodes[:cap(g.Nodes)][i]
		overwriteList(n.Args)
		*n = api.Node{Kind: -5, Name: "over", Num: -5, Args: []int{-5}}
	}
	overwriteList(g.Roots)
}

func overwriteList(list []int) {
	list = list[:cap(list)]
	for i := range list {
		list[i] = -5
	}
}

// calls makes every call at two graphs, and gives the graphs and the lists that they answer.
func calls(t *testing.T, gs []api.Graph, path []int) ([]api.Graph, [][]int) {
	t.Helper()
	graphs, lists := []api.Graph{}, [][]int{}
	for _, g := range gs {
		graph.Check(g)
		trim, _ := graph.Trim(g)
		reach, _ := graph.Reach(g)
		vars, _ := graph.Vars(g)
		graph.Cyclic(g)
		graph.At(g, 0, path)
		graph.Same(g, gs[0])
		graphs, lists = append(graphs, trim), append(lists, reach, vars)
	}
	join, _ := graph.Join(gs...)
	one, _ := graph.Join(gs[0])
	return append(graphs, join, one), lists
}

// P4.4: no call changes what is handed in, its spare room included, be it taken or refused.
func TestHandedInStays(t *testing.T) {
	for seed := range 1500 {
		d := dice(seed)
		gs := make([]api.Graph, 3, 5)
		var before []api.Graph
		for i := range gs {
			gs[i] = roomyGraph(d.graph(9))
			if seed%3 == 0 {
				d.spoil(gs[i])
			}
			before = append(before, whole(gs[i]))
		}
		path := roomy([]int{d.below(3), d.below(3) - 1, 0})
		pathBefore := slices.Clone(path[:cap(path)])
		calls(t, gs, path)
		for i, g := range gs {
			if !equal(whole(g), before[i]) {
				t.Fatalf("graph %d was %v, is %v", i, before[i], whole(g))
			}
		}
		if !slices.Equal(path[:cap(path)], pathBefore) {
			t.Fatalf("the path was %v, is %v", pathBefore, path[:cap(path)])
		}
		for _, spare := range gs[:5][3:] {
			if !equal(spare, api.Graph{}) {
				t.Fatalf("spare room of the graphs is %v", spare)
			}
		}
	}
}

// P4.4: what is answered is as it was when what was handed in is written over, and the other way round.
func TestAnswersAreNewMemory(t *testing.T) {
	for seed := range 1500 {
		d := dice(seed)
		gs := []api.Graph{roomyGraph(d.graph(9)), roomyGraph(d.graph(9))}
		path := roomy([]int{0, 1})
		graphs, lists := calls(t, gs, path)
		// What is answered a second time is held against what is answered later.
		again, listsAgain := calls(t, gs, path)
		var want []api.Graph
		for _, g := range graphs {
			want = append(want, clone(g))
		}
		var wantLists [][]int
		for _, l := range lists {
			wantLists = append(wantLists, slices.Clone(l))
		}
		before := []api.Graph{whole(gs[0]), whole(gs[1])}
		for i, g := range again {
			overwrite(g)
			if i < len(listsAgain) {
				overwriteList(listsAgain[i])
			}
		}
		for i, g := range gs {
			if !equal(whole(g), before[i]) {
				t.Fatalf("an answer shares memory with graph %d", i)
			}
			overwrite(g)
		}
		overwriteList(path)
		for i, g := range graphs {
			if !equal(g, want[i]) {
				t.Fatalf("answer %d was %v, is %v", i, want[i], g)
			}
		}
		for i, l := range lists {
			if !slices.Equal(l, wantLists[i]) {
				t.Fatalf("list %d was %v, is %v", i, wantLists[i], l)
			}
		}
	}
}

// R6: no two lists of one answer share memory, spare room included.
func TestListsOfOneAnswer(t *testing.T) {
	for seed := range 300 {
		d := dice(seed)
		g := d.graph(12)
		graphs, _ := calls(t, []api.Graph{g, g}, nil)
		for _, a := range graphs {
			lists := [][]int{a.Roots}
			for _, n := range a.Nodes {
				lists = append(lists, n.Args)
			}
			for i, l := range lists {
				l = l[:cap(l)]
				for k := range l {
					l[k] = 1000 + i
				}
			}
			for i, l := range lists {
				for _, got := range l[:cap(l)] {
					if got != 1000+i {
						t.Fatalf("two lists of one answer share memory: %v", a)
					}
				}
			}
		}
	}
}

// P4.4: one graph, or one list, that stands in several places of what is handed in, is several in the answer.
func TestSharedLists(t *testing.T) {
	list := []int{0, 1, 0}
	g := api.Graph{Nodes: []api.Node{{Kind: 4, Name: "f", Args: list}, {Kind: 4, Name: "g", Args: list}}, Roots: list}
	join, err := graph.Join(g, g)
	if err != nil || !equal(join, read("f(0,1,0) g(0,1,0) f(2,3,2) g(2,3,2)", 0, 1, 0, 2, 3, 2)) {
		t.Fatalf("Join = %v, %v", join, err)
	}
	trim, err := graph.Trim(g)
	if err != nil || !equal(trim, read("f(0,1,0) g(0,1,0)", 0, 1, 0)) {
		t.Fatalf("Trim = %v, %v", trim, err)
	}
	trim.Roots[0], trim.Nodes[0].Args[1] = 1, 0
	if !equal(trim, read("f(0,0,0) g(0,1,0)", 1, 1, 0)) || !slices.Equal(list, []int{0, 1, 0}) {
		t.Errorf("Trim = %v, the list handed in %v", trim, list)
	}
}

// held is how many bytes are in use when all that nobody holds any more is given back.
func held() uint64 {
	var m runtime.MemStats
	runtime.GC()
	runtime.ReadMemStats(&m)
	return m.HeapAlloc
}

// P4.4: an answer's names are new memory: names that are cut out of long sources don't hold the sources.
func TestNamesAreNewMemory(t *testing.T) {
	for call, answer := range map[string]func(api.Graph) (api.Graph, error){
		"Trim": graph.Trim,
		"Join": func(g api.Graph) (api.Graph, error) { return graph.Join(g, g) },
	} {
		before := held()
		out := api.Graph{}
		for n := range 32 {
			source := strings.Repeat("name"+strconv.Itoa(n)+" ", 1<<17)
			name, _, _ := strings.Cut(source, " ")
			g, err := answer(api.Graph{Nodes: []api.Node{{Kind: 4, Name: name, Args: []int{1}}, {Kind: 2, Name: name}}, Roots: []int{0}})
			if err != nil {
				t.Fatal(err)
			}
			out.Nodes = append(out.Nodes, g.Nodes...)
		}
		if after := held(); after > before+1<<22 {
			t.Errorf("%s: %d bytes are held for short names", call, after-before)
		}
		// The answers are asked behind it, so that they are alive while the bytes are counted.
		if out.Nodes[0].Name != "name0" || out.Nodes[len(out.Nodes)-1].Name != "name31" {
			t.Errorf("%s: other names", call)
		}
	}
}

// R9: a call answers the same as often as it is made.
func TestAnswersAgain(t *testing.T) {
	for seed := range 300 {
		d := dice(seed)
		gs := []api.Graph{d.graph(9), d.graph(9)}
		graphs, lists := calls(t, gs, nil)
		graphsAgain, listsAgain := calls(t, gs, nil)
		for i, g := range graphs {
			if !equal(g, graphsAgain[i]) {
				t.Fatalf("answers %v and %v", g, graphsAgain[i])
			}
		}
		for i, l := range lists {
			if !slices.Equal(l, listsAgain[i]) {
				t.Fatalf("answers %v and %v", l, listsAgain[i])
			}
		}
	}
}
