package show_test

import (
	"slices"
	"strconv"
	"strings"
	"testing"

	"tendril/api"
	"tendril/bisim"
	"tendril/graph"
	"tendril/parse"
	"tendril/show"
)

// The limits and the numbers are spelt here, apart from the program.
const (
	most    = 4096 // nodes, roots, equations, and compounds within compounds
	widest  = 8
	longest = 32 // bytes of a name
	great   = 1 << 50

	kVar  = 1
	kAtom = 2
	kInt  = 3
	kComp = 4
)

// Nodes.
func v() api.Node                                { return api.Node{Kind: kVar} }
func a(name string) api.Node                     { return api.Node{Kind: kAtom, Name: name} }
func n(num int) api.Node                         { return api.Node{Kind: kInt, Num: num} }
func c(name string, args ...int) api.Node        { return api.Node{Kind: kComp, Name: name, Args: args} }
func nodes(list ...api.Node) []api.Node          { return list }
func of(list []api.Node, roots ...int) api.Graph { return api.Graph{Nodes: list, Roots: roots} }

// node is a node from a short text: X a variable, a an atom, -7 an integer, f(1,2) a compound.
func node(s string) api.Node {
	name, rest, comp := strings.Cut(s, "(")
	if comp {
		out := c(name)
		for arg := range strings.SplitSeq(strings.TrimSuffix(rest, ")"), ",") {
			out.Args = append(out.Args, number(arg))
		}
		return out
	}
	if num, err := strconv.Atoi(s); err == nil {
		return n(num)
	}
	if s[0] >= 'A' && s[0] <= 'Z' {
		return v()
	}
	return a(name)
}

func number(s string) int {
	num, err := strconv.Atoi(s)
	if err != nil {
		panic(err)
	}
	return num
}

// made is a graph from its nodes and its roots, with blanks between.
func made(list, roots string) api.Graph {
	var g api.Graph
	for s := range strings.FieldsSeq(list) {
		g.Nodes = append(g.Nodes, node(s))
	}
	for s := range strings.FieldsSeq(roots) {
		g.Roots = append(g.Roots, number(s))
	}
	return g
}

// telling is all that a graph says.
func telling(g api.Graph) string {
	var out strings.Builder
	for _, m := range g.Nodes {
		out.WriteString(strconv.Itoa(m.Kind) + " " + strconv.Quote(m.Name) + " " + strconv.Itoa(m.Num))
		for _, arg := range m.Args {
			out.WriteString(" " + strconv.Itoa(arg))
		}
		out.WriteString("; ")
	}
	out.WriteString("roots")
	for _, r := range g.Roots {
		out.WriteString(" " + strconv.Itoa(r))
	}
	return out.String()
}

// termsTelling is all that written terms say.
func termsTelling(x api.Terms) string {
	var out strings.Builder
	for _, e := range x.Roots {
		exprTelling(&out, e)
	}
	out.WriteString("where ")
	for _, q := range x.Eqs {
		out.WriteString(strconv.Quote(q.Name) + " = ")
		exprTelling(&out, q.Right)
	}
	return out.String()
}

func exprTelling(out *strings.Builder, e api.Expr) {
	out.WriteString(strconv.Itoa(e.Kind) + " " + strconv.Quote(e.Name) + " " + strconv.Itoa(e.Num) + " (")
	for _, x := range e.Args {
		exprTelling(out, x)
	}
	out.WriteString("); ")
}

// short is a text as it is told when a test fails.
func short(s string) string {
	if len(s) > 400 {
		return s[:400] + ".. of " + strconv.Itoa(len(s)) + " bytes"
	}
	return s
}

// wantText stops the test unless a graph has this text, and all that is promised of a text holds.
func wantText(t *testing.T, g api.Graph, text string) {
	t.Helper()
	got, err := show.Text(g)
	if err != nil || got != text {
		t.Fatalf("%s:\n%s, %v, want\n%s", short(telling(g)), short(got), err, short(text))
	}
	wantTerms(t, g, text)
	wantEquations(t, g, text)
	wantBack(t, g, text)
}

// wantTerms stops the test unless Terms is what the text says (P9.1).
func wantTerms(t *testing.T, g api.Graph, text string) {
	t.Helper()
	got, err := show.Terms(g)
	if err != nil {
		t.Fatalf("%s: Terms: %v", short(text), err)
	}
	want, err := parse.Terms(text)
	if err != nil {
		t.Fatalf("%s isn't read: %v", short(text), err)
	}
	if said := termsTelling(got); said != termsTelling(want) {
		t.Fatalf("%s: Terms:\n%s, want\n%s", short(text), short(said), short(termsTelling(want)))
	}
}

// wantEquations stops the test unless there is one equation for each node that bisim.Named tells (P9.3).
func wantEquations(t *testing.T, g api.Graph, text string) {
	t.Helper()
	named, err := bisim.Named(g)
	x, _ := show.Terms(g)
	// No name has a blank in it, so a = with blanks is an equation's.
	if err != nil || strings.Count(text, " = ") != len(named) || len(x.Eqs) != len(named) {
		t.Fatalf("%s: %d nodes have a name, %v", short(text), len(named), err)
	}
	for i, q := range x.Eqs {
		if q.Name != "E"+strconv.Itoa(i+1) || q.Right.Kind != kComp {
			t.Fatalf("%s: equation %d is %v", short(text), i, q)
		}
	}
}

// wantBack stops the test unless a graph's text is read as its least graph, or is too large for that (P9.2), and what is read has the same text, and is read from that again (P9.4).
func wantBack(t *testing.T, g api.Graph, text string) {
	t.Helper()
	if count := countOf(text); count > most {
		wantRead(t, text, count, fault(errBig, count, "", nil))
		return
	}
	least, err := bisim.Quotient(g)
	if err != nil {
		t.Fatal(err)
	}
	read, err := show.Read(text)
	if err != nil || !graph.Same(read, least) {
		t.Fatalf("%s is read as\n%s, %v, want\n%s", short(text), short(telling(read)), err, short(telling(least)))
	}
	again, err := show.Text(read)
	if err != nil || again != text {
		t.Fatalf("%s, read and told again:\n%s, %v", short(text), short(again), err)
	}
}

// want stops the test unless a graph has this text.
func want(t *testing.T, list, roots, text string) {
	t.Helper()
	wantText(t, made(list, roots), text)
}

// wantReadAs stops the test unless a text is read as this graph, which has that text, and is read from that again (P9.4).
func wantReadAs(t *testing.T, text, list, roots, again string) {
	t.Helper()
	g, err := show.Read(text)
	if h := made(list, roots); err != nil || telling(g) != telling(h) {
		t.Fatalf("%s is read as\n%s, %v, want\n%s", text, telling(g), err, telling(h))
	}
	wantText(t, g, again)
}

// The chapter's examples.
func TestExamples(t *testing.T) {
	want(t, "f(1,0) X", "0", "E1 where E1 = f(V1,E1)")
	want(t, "X a", "1 0 0", "a, V1, V1")
	want(t, "X a", "", "")
	want(t, ".(1,2) 1 .(3,4) 2 X", "0", "E1 where E1 = [1,2|V1]")
	want(t, ".(1,0) 0", "0", "E1 where E1 = [0|E1]")
	want(t, "f(1,1) g(2) a", "0", "E1 where E1 = f(E2,E2), E2 = g(a)")
	want(t, "f(1,2) g(2) X", "0 1", "E1, E2 where E1 = f(E2,V1), E2 = g(V1)")
	wantRead(t, "f(X", 3, fault(errEnd, 3, "", nil))
	wantRead(t, "a where _ = b", 0, fault(errEqName, 0, "_", nil))
}

// What DOC.md's examples print of graphs.
func TestExamplesOfTheWhole(t *testing.T) {
	want(t, "s(1) 0", "0", "E1 where E1 = s(0)")
	want(t, "s(1) s(2) 0", "0", "E1 where E1 = s(s(0))")
	want(t, "X f(0) f(3) a", "0 1 2", "V1, E1, E2 where E1 = f(V1), E2 = f(a)")
	want(t, "f(1,0) g(0)", "0 1", "E1, E2 where E1 = f(E2,E1), E2 = g(E1)")
	want(t, "f(0,1,0) a f(2,1,3) f(2,1,2)", "0 2", "E1, E1 where E1 = f(E1,a,E1)")
}

// P9.1: no nodes, no roots.
func TestNothing(t *testing.T) {
	wantText(t, api.Graph{}, "")
	wantText(t, api.Graph{Nodes: []api.Node{}, Roots: []int{}}, "")
	wantText(t, api.Graph{Nodes: make([]api.Node, 0, 5), Roots: make([]int, 0, 5)}, "")
	want(t, "f(0,1) X a -7 g(0)", "", "")
	for _, s := range []string{"", " ", "\t\r\n", "% where", " % a\n \n"} {
		wantReadAs(t, s, "", "", "")
	}
	if x, err := show.Terms(api.Graph{}); err != nil || len(x.Roots)+len(x.Eqs) > 0 {
		t.Error(x, err)
	}
}

// P9.1: roots that are variables, atoms, integers.
func TestSmallRoots(t *testing.T) {
	want(t, "X", "0", "V1")
	want(t, "a", "0", "a")
	want(t, "0", "0", "0")
	want(t, "[]", "0", "[]")
	want(t, "X Y Z", "0 1 2", "V1, V2, V3")
	want(t, "X Y Z", "2 1 0", "V1, V2, V3")
	want(t, "X Y Z", "2 0 2 1 0", "V1, V2, V1, V3, V2")
	want(t, "a b", "1 0 1", "b, a, b")
	want(t, "1 -1 0", "2 1 0 1", "0, -1, 1, -1")
	want(t, "a X 1 [] a", "4 3 2 1 0", "a, [], 1, V1, a")
	wantText(t, of(nodes(n(great), n(-great), n(great-1), n(1-great)), 0, 1, 2, 3), "1125899906842624, -1125899906842624, 1125899906842623, -1125899906842623")
	wantText(t, of(nodes(c("f", 1, 2), n(-great), n(great)), 0), "E1 where E1 = f(-1125899906842624,1125899906842624)")
	// A word of the grammar is a name like others.
	want(t, "where co dif", "0 1 0 2", "where, co, where, dif")
	want(t, "where where(0)", "0 1", "where, E1 where E1 = where(where)")
	want(t, "co(1) dif(2,2) where", "0 1", "E1, E2 where E1 = co(E2), E2 = dif(where,where)")
}

// P9.1: one node as several roots, and roots that lead to one another.
func TestRootsTwice(t *testing.T) {
	want(t, "f(1) a", "0 0", "E1, E1 where E1 = f(a)")
	want(t, "f(1) a", "0 1 0", "E1, a, E1 where E1 = f(a)")
	want(t, "f(1) g(2) a", "1 0 1", "E1, E2, E1 where E1 = g(a), E2 = f(E1)")
	want(t, "f(1) g(2) a", "0 1", "E1, E2 where E1 = f(E2), E2 = g(a)")
	want(t, "f(1) g(0)", "0 1", "E1, E2 where E1 = f(E2), E2 = g(E1)")
	want(t, "f(1) g(0)", "1 0", "E1, E2 where E1 = g(E2), E2 = f(E1)")
	want(t, "f(1) g(0)", "1", "E1 where E1 = g(f(E1))")
	want(t, "f(1) X f(3) X", "0 2 1", "E1, E2, V1 where E1 = f(V1), E2 = f(V2)")
	want(t, "f(1) X f(3) X", "2 0 1", "E1, E2, V2 where E1 = f(V1), E2 = f(V2)")
}

// P9.1: nodes that no root leads to, though they would lead to others.
func TestNothingLeadsThere(t *testing.T) {
	want(t, "a b X f(0) -1", "1", "b")
	want(t, "g(2) h(2,2) f(3) X", "2", "E1 where E1 = f(V1)")
	// An edge from a compound that isn't met doesn't count.
	want(t, "f(1) g(2) a h(1,1) k(1)", "0", "E1 where E1 = f(g(a))")
	// A variable that isn't met has no number.
	want(t, "X Y f(1) f(0)", "2", "E1 where E1 = f(V1)")
	// Circles that nothing leads into.
	want(t, "f(0) g(2) f(3) f(2) X", "1", "E1 where E1 = g(E2), E2 = f(E2)")
	want(t, "h(0,1) h(1,0) a", "2", "a")
}

// P9.1: nodes that unfold alike though they are written otherwise are told as one.
func TestWrittenOtherwise(t *testing.T) {
	want(t, "a a", "0 1", "a, a")
	want(t, "f(1) a f(3) a", "0 2", "E1, E1 where E1 = f(a)")
	want(t, "f(1) f(0) f(2)", "0 1 2", "E1, E1, E1 where E1 = f(E1)")
	want(t, "f(1) f(2) f(0)", "0", "E1 where E1 = f(E1)")
	want(t, ".(1,2) 0 .(3,4) 0 .(1,0)", "0", "E1 where E1 = [0|E1]")
	want(t, "f(1,2) g(0) g(3) f(2,1) a", "0 3", "E1, E1 where E1 = f(E2,E2), E2 = g(E1)")
	// Two edges that lead to two nodes lead to one in the least graph.
	want(t, "f(1,2) g(3) g(4) a a", "0", "E1 where E1 = f(E2,E2), E2 = g(a)")
	// Two edges of two compounds that are one are one edge.
	want(t, "h(1,2) f(3) f(3) g(4) a", "0", "E1 where E1 = h(E2,E2), E2 = f(g(a))")
	// What is alike but for its variables is not alike.
	want(t, "h(1,2) f(3) f(4) X X", "0", "E1 where E1 = h(f(V1),f(V2))")
	want(t, "h(1,2) f(3) f(3) X", "0", "E1 where E1 = h(E2,E2), E2 = f(V1)")
}

// P9.1: compounds that hold themselves, by one step and by several.
func TestHoldThemselves(t *testing.T) {
	want(t, "f(0)", "0", "E1 where E1 = f(E1)")
	want(t, "f(0,0,0)", "0", "E1 where E1 = f(E1,E1,E1)")
	want(t, "f(1) g(2) h(0)", "0", "E1 where E1 = f(g(h(E1)))")
	want(t, "f(1) g(2) h(1)", "0", "E1 where E1 = f(E2), E2 = g(h(E2))")
	want(t, "f(1) g(2) h(2)", "0", "E1 where E1 = f(g(E2)), E2 = h(E2)")
	want(t, "f(1) g(2) h(0,1,2,3) X", "0", "E1 where E1 = f(E2), E2 = g(E3), E3 = h(E1,E2,E3,V1)")
	want(t, "f(1) g(0)", "0 0", "E1, E1 where E1 = f(g(E1))")
	want(t, "a f(1) g(0,1)", "0 2", "a, E1 where E1 = g(a,E2), E2 = f(E2)")
}

// P9.1: a compound to which one edge leads has no name; one to which two lead has one, be they of one compound or of two.
func TestEdges(t *testing.T) {
	want(t, "f(1) g(2) a", "0", "E1 where E1 = f(g(a))")
	want(t, "f(1,1) g(2) a", "0", "E1 where E1 = f(E2,E2), E2 = g(a)")
	want(t, "f(1,2) g(2) k(3) a", "0", "E1 where E1 = f(g(E2),E2), E2 = k(a)")
	want(t, "f(1,2) g(3) h(3) k(4) a", "0", "E1 where E1 = f(g(E2),h(E2)), E2 = k(a)")
	want(t, "f(1,2) g(3) h(3) k(1)", "0", "E1 where E1 = f(E2,h(E3)), E2 = g(E3), E3 = k(E2)")
	want(t, "f(1,2) g(1) a", "0", "E1 where E1 = f(E2,a), E2 = g(E2)")
	// A root that nothing leads to has a name, and one to which one edge leads.
	want(t, "f(1) g(2) k(3) a", "0 2", "E1, E2 where E1 = f(g(E2)), E2 = k(a)")
	want(t, "f(1) g(2) k(3) a", "2 0", "E1, E2 where E1 = k(a), E2 = f(g(E1))")
	// What is no compound has none, whatever leads to it.
	want(t, "f(1,1,2,2,3,3) a 7 X", "0 1 2 3", "E1, a, 7, V1 where E1 = f(a,a,7,7,V1,V1)")
	want(t, "f(1,2,1,2) g(3) h(3) a", "0", "E1 where E1 = f(E2,E3,E2,E3), E2 = g(a), E3 = h(a)")
	// As many arguments as may be.
	want(t, "f(1,2,3,4,5,6,7,8) 1 2 3 4 5 6 7 8", "0", "E1 where E1 = f(1,2,3,4,5,6,7,8)")
	want(t, "f(0,1,0,2,0,3,0,1) a g(1) X", "0", "E1 where E1 = f(E1,a,E1,g(a),E1,V1,E1,a)")
}

// P9.1: the order of the names is that of meeting, in which a node comes ahead of its arguments, and each argument with all within it ahead of the next.
func TestOrder(t *testing.T) {
	want(t, "X Y f(1,0)", "2", "E1 where E1 = f(V1,V2)")
	want(t, "X Y f(1,0)", "0 2", "V1, E1 where E1 = f(V2,V1)")
	want(t, "X Y f(3,4,0) X g(1,5) h(0)", "2", "E1 where E1 = f(V1,g(V2,h(V3)),V3)")
	want(t, "k(1,2) f(3,3) f(4,4) g(5,5) h(5,5) e(6) a", "0", "E1 where E1 = k(f(E2,E2),f(E4,E4)), E2 = g(E3,E3), E3 = e(a), E4 = h(E3,E3)")
	want(t, "a b(0) c(0) d(0)", "3 1 2", "E1, E2, E3 where E1 = d(a), E2 = b(a), E3 = c(a)")
	// Names are numbers, not letters: the tenth comes behind the ninth.
	var g api.Graph
	var roots, eqs []string
	for i := range 120 {
		g.Nodes = append(g.Nodes, c("f", 2*(i*7%120)+1), v())
		g.Roots = append(g.Roots, 2*(i*11%120))
		s := strconv.Itoa(i + 1)
		roots, eqs = append(roots, "E"+s), append(eqs, "E"+s+" = f(V"+s+")")
	}
	wantText(t, g, strings.Join(roots, ", ")+" where "+strings.Join(eqs, ", "))
}

// P9.1: lists that end in the empty list, in a variable, in something else, in a named node; and whose rest is a named node in the midst.
func TestLists(t *testing.T) {
	want(t, ".(1,2) a []", "0", "E1 where E1 = [a]")
	want(t, ".(1,2) a .(3,4) b []", "0", "E1 where E1 = [a,b]")
	want(t, ".(1,2) a .(3,4) b X", "0", "E1 where E1 = [a,b|V1]")
	want(t, ".(1,2) a .(3,4) b c", "0", "E1 where E1 = [a,b|c]")
	want(t, ".(1,2) a .(3,4) b 5", "0", "E1 where E1 = [a,b|5]")
	want(t, ".(1,2) a .(3,4) b f(4)", "0", "E1 where E1 = [a,b|E2], E2 = f(E2)")
	want(t, ".(1,2) a .(3,4) b f(5) c", "0", "E1 where E1 = [a,b|f(c)]")
	want(t, ".(1,2) a .(3,0) b", "0", "E1 where E1 = [a,b|E1]")
	want(t, ".(1,2) a .(3,2) b", "0", "E1 where E1 = [a|E2], E2 = [b|E2]")
	// A rest with a name stands behind the |, a list though it is.
	want(t, ".(1,2) a .(3,4) b []", "0 2", "E1, E2 where E1 = [a|E2], E2 = [b]")
	want(t, ".(1,2) a .(3,4) b .(1,5) []", "0 2", "E1, E2 where E1 = [a|E2], E2 = [b,a]")
	want(t, ".(1,2) a .(3,4) b .(1,5) []", "0 4", "E1, E2 where E1 = [a,b|E2], E2 = [a]")
	want(t, "f(1,2) .(3,2) .(4,5) a b []", "0", "E1 where E1 = f([a|E2],E2), E2 = [b]")
	want(t, ".(1,1) .(2,3) a []", "0", "E1 where E1 = [E2|E2], E2 = [a]")
	want(t, ".(0,0)", "0", "E1 where E1 = [E1|E1]")
	want(t, ".(0,1) []", "0", "E1 where E1 = [E1]")
	want(t, ".(1,1) []", "0", "E1 where E1 = [[]]")
	want(t, ".(1,2) [] .(3,1) .(1,1)", "0", "E1 where E1 = [[],[[]]]")
	want(t, ".(1,2) X .(0,1)", "0", "E1 where E1 = [V1,E1|V1]")
	want(t, ".(1,2) .(3,4) .(5,4) f(3) [] X", "0", "E1 where E1 = [[E2],V1], E2 = f(E2)")
}

// P9.1: what looks like a list and is none: the name of lists with one or three arguments, the empty list's with some, and as an argument.
func TestNoLists(t *testing.T) {
	want(t, ".(1) a", "0", "E1 where E1 = '.'(a)")
	want(t, ".(1,1,1) a", "0", "E1 where E1 = '.'(a,a,a)")
	want(t, ".(1,2) a .(3) []", "0", "E1 where E1 = [a|'.'([])]")
	want(t, ".(1,2) a .(1,1,3) []", "0", "E1 where E1 = [a|'.'(a,a,[])]")
	want(t, "[](1) a", "0", "E1 where E1 = '[]'(a)")
	want(t, "[](1,2) a []", "0", "E1 where E1 = '[]'(a,[])")
	want(t, ".(1,2) a [](1)", "0", "E1 where E1 = [a|'[]'(a)]")
	want(t, ".(1,1) .", "0", "E1 where E1 = ['.'|'.']")
	want(t, ". []", "0 1", "'.', []")
	want(t, "f(1,2,3) . [] .(1,2)", "0", "E1 where E1 = f('.',[],['.'])")
	want(t, "..(1,2) a []", "0", "E1 where E1 = '..'(a,[])")
}

// P9.1: names that must be quoted, of atoms and of compounds, and names that look like others.
func TestQuoted(t *testing.T) {
	long, marks, strokes := strings.Repeat("a", longest), strings.Repeat("'", longest), strings.Repeat("\\", longest)
	for name, text := range map[string]string{
		"a": "a", "aZ_9": "aZ_9", "A": "'A'", "_": "'_'", "_a": "'_a'", "9": "'9'", "-1": "'-1'", "V1": "'V1'", "E1": "'E1'", "where": "where", "=": "'='", ",": "','", ":-": "':-'", "[": "'['", "[a]": "'[a]'",
		"it's": "'it\\'s'", "\\": "'\\\\'", "'": "'\\''", "\\'": "'\\\\\\''", "a-b": "'a-b'", "%": "'%'", "(": "'('", "~!": "'~!'", "a.": "'a.'", "[]]": "'[]]'", "..": "'..'",
		long: long, "A" + long[1:]: "'A" + long[1:] + "'", marks: "'" + strings.Repeat("\\'", longest) + "'", strokes: "'" + strings.Repeat("\\\\", longest) + "'",
	} {
		wantText(t, of(nodes(a(name)), 0), text)
		wantText(t, of(nodes(c(name, 0)), 0), "E1 where E1 = "+text+"(E1)")
		wantText(t, of(nodes(c("f", 1, 2), a(name), c(name, 1, 3), v()), 0, 3), "E1, V1 where E1 = f("+text+","+text+"("+text+",V1))")
		wantText(t, of(nodes(c(".", 0, 1), a(name)), 0), "E1 where E1 = [E1|"+text+"]")
	}
	// An atom of a digit is no integer, one of a capital letter no variable.
	wantText(t, of(nodes(a("1"), n(1), a("V1"), v(), a("E1"), c("V1", 3), c("E1", 4)), 0, 1, 2, 3, 4, 5, 6), "'1', 1, 'V1', V1, 'E1', E1, E2 where E1 = 'V1'(V1), E2 = 'E1'('E1')")
	for b := byte(0x21); b <= 0x7e; b++ {
		g := of(nodes(c(string([]byte{b}), 1), a(string([]byte{b, b}))), 0)
		wantText(t, g, textOf(g))
	}
}

// P9.4: texts written by hand, read, told and read again.
func TestByHand(t *testing.T) {
	wantReadAs(t, "X where X = f(Y,X)", "f(1,0) X", "0", "E1 where E1 = f(V1,E1)")
	wantReadAs(t, " a , X\t,%b\nX", "a X", "0 1 1", "a, V1, V1")
	wantReadAs(t, "_, _, X, _", "X X X X", "0 1 2 3", "V1, V2, V3, V4")
	wantReadAs(t, "[1,2|T]", ".(1,2) 1 .(3,4) 2 X", "0", "E1 where E1 = [1,2|V1]")
	wantReadAs(t, "'.'(1, '.'(2, '[]'))", ".(1,2) 1 .(3,4) 2 []", "0", "E1 where E1 = [1,2]")
	wantReadAs(t, "X where X = [0,0,0|X]", ".(1,0) 0", "0", "E1 where E1 = [0|E1]")
	wantReadAs(t, "X, Y where X = f(Y), Y = f(X)", "f(0)", "0 0", "E1, E1 where E1 = f(E1)")
	wantReadAs(t, "f(g(a), g(a))", "f(1,1) g(2) a", "0", "E1 where E1 = f(E2,E2), E2 = g(a)")
	wantReadAs(t, "f(X, X) where X = Y, Y = X", "f(1,1) X", "0", "E1 where E1 = f(V1,V1)")
	wantReadAs(t, "X where X = Y, Y = Z, Z = a", "a", "0", "a")
	wantReadAs(t, "a where X = f(X)", "a", "0", "a")
	wantReadAs(t, "where where X = where", "where", "0", "where")
	// A text may use the names that texts have, in any order.
	wantReadAs(t, "V2, V1, E7 where E7 = f(E1, V2), E1 = g(V3)", "X X f(3,0) g(4) X", "0 1 2", "V1, V2, E1 where E1 = f(g(V3),V1)")
	wantReadAs(t, "E2, E1 where E1 = f(E2), E2 = g(E1)", "g(1) f(0)", "0 1", "E1, E2 where E1 = g(E2), E2 = f(E1)")
	wantReadAs(t, "V1 where V1 = f(E1), E1 = E1", "f(1) X", "0", "E1 where E1 = f(V1)")
	// Equations that a text needn't have are not told again, and those that it lacks are.
	wantReadAs(t, "E1 where E1 = f(E2), E2 = g(E3), E3 = a", "f(1) g(2) a", "0", "E1 where E1 = f(g(a))")
	wantReadAs(t, "f(a), g(f(a))", "f(1) a g(0)", "0 2", "E1, E2 where E1 = f(a), E2 = g(E1)")
	wantReadAs(t, "1125899906842624,-1125899906842624", "1125899906842624 -1125899906842624", "0 1", "1125899906842624, -1125899906842624")
	wantReadAs(t, "'a','\\'','A'(b)", "a ' A(3) b", "0 1 2", "a, '\\'', E1 where E1 = 'A'(b)")
}

// P9.3: what texts tell apart: the order, what is one, what holds itself, what is written otherwise.
func TestTexts(t *testing.T) {
	for _, pair := range [][2]string{
		{"f(1,2) X X|0", "f(2,1) X X|0"}, {"f(1) a|0", "b f(3) c a|1"}, {"f(1) f(0)|0", "f(0)|0"}, {"X Y|0 1", "X Y|1 0"}, {"f(1,2) X Y|0 1", "f(2,1) X Y|0 2"},
		{"f(1) X f(3) X|0 2", "f(1) X f(3) X|2 0"}, {"a a|0 1", "a|0 0"}, {".(1,0) 0|0", ".(1,2) 0 .(1,0)|0"}, {"|", "a|"},
	} {
		wantPair(t, pair[0], pair[1], true)
	}
	for _, pair := range [][2]string{
		{"f(1,2) X X|0", "f(1,1) X|0"}, {"X Y|0 1", "X|0 0"}, {"X|0", "a|0"}, {"a|0", "b|0"}, {"a|0", "a|0 0"}, {"a b|0 1", "a b|1 0"}, {"1|0", "-1|0"}, {"f(1) a|0", "f(1,1) a|0"}, {"f(1) a|0", "g(1) a|0"},
		{"f(0)|0", "f(1) X|0"}, {"f(0)|0", "f(1) f(2) X|0"}, {"f(1) X|0 1", "f(1) X Y|0 2"}, {"|", "a|0"}, {"f(1,0) X|0", "f(0,1) X|0"}, {"f(1) X f(3) X|0 2 1", "f(1) X f(3) X|0 2 3"}, {"[](1) a|0", ".(1) a|0"}, {"f(1) a|0", "f(1) a|1"},
		{"h(1,2) f(3) f(4) X X|0", "h(1,1) f(2) X|0"}, {".(1,2) a []|0", ".(1,2) a X|0"}, {"f(0,1) g(0)|0", "f(1,0) g(0)|0"},
	} {
		wantPair(t, pair[0], pair[1], false)
	}
	wantApart(t, of(nodes(a("1")), 0), of(nodes(n(1)), 0))
	wantApart(t, of(nodes(a("V1")), 0), of(nodes(v()), 0))
	wantApart(t, of(nodes(a("E1")), 0), of(nodes(c("E1", 0)), 0))
	wantApart(t, of(nodes(a("f(a)")), 0), of(nodes(c("f", 1), a("a")), 0))
	wantApart(t, of(nodes(a("a,"), a("a")), 0, 1), of(nodes(a("a"), a(",a")), 0, 1))
}

// wantPair stops the test unless two graphs have one text, or two, as said; each is its nodes and its roots.
func wantPair(t *testing.T, one, other string, same bool) {
	t.Helper()
	var list []api.Graph
	for _, s := range []string{one, other} {
		parts := strings.Split(s, "|")
		list = append(list, made(parts[0], parts[1]))
	}
	if !same {
		wantApart(t, list[0], list[1])
		return
	}
	text, err := show.Text(list[0])
	if err != nil {
		t.Fatal(one, err)
	}
	wantText(t, list[0], text)
	wantText(t, list[1], text)
}

// wantApart stops the test if two graphs have one text.
func wantApart(t *testing.T, g, h api.Graph) {
	t.Helper()
	one, err := show.Text(g)
	other, err2 := show.Text(h)
	if err != nil || err2 != nil || one == other {
		t.Fatalf("%s and %s: %s, %v, %s, %v", telling(g), telling(h), one, err, other, err2)
	}
}

// chain is so many compounds, each within the one ahead of it, and the last node.
func chain(count int, last api.Node) api.Graph {
	g := api.Graph{Roots: []int{0}}
	for i := range count {
		g.Nodes = append(g.Nodes, c("s", i+1))
	}
	g.Nodes = append(g.Nodes, last)
	return g
}

// circle is so many compounds, the last of another name and around the first.
func circle(count int) api.Graph {
	return chain(count-1, c("z", 0))
}

// P9.1, P9.2: terms as deep as may be, and as deep as can be read.
func TestDeepest(t *testing.T) {
	for _, count := range []int{most - 3, most - 2, most - 1} {
		text := "E1 where E1 = " + strings.Repeat("s(", count)
		wantText(t, chain(count, v()), text+"V1"+strings.Repeat(")", count))
		wantText(t, chain(count, a("a")), text+"a"+strings.Repeat(")", count))
	}
	for _, count := range []int{most - 2, most - 1, most} {
		// All of MaxNodes are compounds within one another, and what stands in them all is within MaxNest of them.
		wantText(t, circle(count), "E1 where E1 = "+strings.Repeat("s(", count-1)+"z(E1)"+strings.Repeat(")", count-1))
	}
	// The end of a list is within as many.
	g := api.Graph{Roots: []int{0}}
	for i := range most - 1 {
		g.Nodes = append(g.Nodes, c(".", most-1, (i+1)%(most-1)))
	}
	g.Nodes = append(g.Nodes, a("a"))
	wantText(t, g, "E1 where E1 = [a|E1]")
	g.Nodes[most-2].Args[1] = most - 1
	wantText(t, g, "E1 where E1 = [a"+strings.Repeat(",a", most-2)+"|a]")
}

// P9.2: texts as large as can be read, and one larger, by each kind of what counts.
func TestLargest(t *testing.T) {
	// Names of variables, integers, and atoms that count as often as they are told.
	for _, roots := range []int{most - 1, most} {
		var g, h, k api.Graph
		for i := range roots {
			g.Nodes, g.Roots = append(g.Nodes, v()), append(g.Roots, i)
			h.Nodes, h.Roots = append(h.Nodes, n(i)), append(h.Roots, i)
			k.Roots = append(k.Roots, 0)
		}
		k.Nodes = nodes(a("a"))
		for _, x := range []api.Graph{g, h, k} {
			wantText(t, x, textOf(x))
			if _, err := show.Read(textOf(x)); err != nil {
				t.Fatal(err)
			}
		}
	}
	// A name, compounds, and an atom that is told seven times.
	for _, count := range []int{most - 1, most, most + 1, most + 2} {
		deep := count - 1 - 1 - 7
		g := chain(deep, c("f", 0))
		g.Nodes[deep].Args = append(slices.Repeat([]int{deep + 1}, 7), 0)
		g.Nodes = append(g.Nodes, a("a"))
		text := "E1 where E1 = " + strings.Repeat("s(", deep) + "f(a,a,a,a,a,a,a,E1)" + strings.Repeat(")", deep)
		wantText(t, g, text)
		if _, err := show.Read(text); (err != nil) != (count > most) {
			t.Fatal(count, err)
		}
	}
	// Named nodes count twice: their names and they themselves.
	for _, count := range []int{most / 2, most/2 + 1, most} {
		var g api.Graph
		for i := range count {
			g.Nodes, g.Roots = append(g.Nodes, c("f"+strconv.Itoa(i), (i+1)%count)), append(g.Roots, i)
		}
		wantText(t, g, textOf(g))
		if _, err := show.Read(textOf(g)); (err != nil) != (2*count > most) {
			t.Fatal(count, err)
		}
	}
}

// P9.1: the longest text that there can be is told, and is no longer than a source may be.
func TestLongestText(t *testing.T) {
	name, text := strings.Repeat("'", longest), "'"+strings.Repeat("\\'", longest)+"'"
	var g api.Graph
	var roots, eqs []string
	for i := range most - 1 {
		args, told := slices.Repeat([]int{most - 1}, widest), slices.Repeat([]string{text}, widest)
		if i > 0 {
			// Each is deeper than the one ahead of it, so no two are alike.
			args[0], told[0] = i-1, "E"+strconv.Itoa(i)
		}
		g.Nodes, g.Roots = append(g.Nodes, c(name, args...)), append(g.Roots, i)
		s := "E" + strconv.Itoa(i+1)
		roots, eqs = append(roots, s), append(eqs, s+" = "+text+"("+strings.Join(told, ",")+")")
	}
	g.Nodes, g.Roots = append(g.Nodes, a(name)), append(g.Roots, most-1)
	whole := strings.Join(roots, ", ") + ", " + text + " where " + strings.Join(eqs, ", ")
	if len(whole) < 1<<21 {
		t.Fatalf("%d bytes", len(whole))
	}
	wantText(t, g, whole)
}
