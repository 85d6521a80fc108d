package tie_test

import (
	"slices"
	"strconv"
	"strings"
	"testing"

	"tendril/api"
	"tendril/parse"
	"tendril/tie"
)

// The limits and the numbers are spelt here, apart from the program.
const (
	most    = 4096 // terms, equations, nodes in all, and compounds within compounds
	widest  = 8
	longest = 32 // bytes of a name
	great   = 1 << 50

	kVar  = 1
	kAtom = 2
	kInt  = 3
	kComp = 4

	errExprs   = 80
	errExpr    = 81
	errEqs     = 82
	errEqName  = 83
	errEqTwice = 84
	errBig     = 85
)

// Written terms.
func v(name string) api.Expr                       { return api.Expr{Kind: kVar, Name: name} }
func a(name string) api.Expr                       { return api.Expr{Kind: kAtom, Name: name} }
func n(num int) api.Expr                           { return api.Expr{Kind: kInt, Num: num} }
func c(name string, args ...api.Expr) api.Expr     { return api.Expr{Kind: kComp, Name: name, Args: args} }
func eq(name string, right api.Expr) api.Eq        { return api.Eq{Name: name, Right: right} }
func terms(exprs []api.Expr, e []api.Eq) api.Terms { return api.Terms{Roots: exprs, Eqs: e} }

// many is a term so many times.
func many(count int, e api.Expr) []api.Expr { return slices.Repeat([]api.Expr{e}, count) }

// within is a term in so many compounds.
func within(count int, e api.Expr) api.Expr {
	for range count {
		e = c("f", e)
	}
	return e
}

// named is a name for each number.
func named(i int) string { return "N" + strconv.Itoa(i) }

// written is what a source says.
func written(source string) api.Terms {
	t, err := parse.Terms(source)
	if err != nil {
		panic(source + ": " + err.Error())
	}
	return t
}

// node is a node from a short text: X a variable, a or 'X' an atom, -7 an integer, f(1,2) a compound.
func node(s string) api.Node {
	name, rest, comp := strings.Cut(s, "(")
	name = strings.Trim(name, "'")
	if comp {
		out := api.Node{Kind: kComp, Name: name}
		for arg := range strings.SplitSeq(strings.TrimSuffix(rest, ")"), ",") {
			out.Args = append(out.Args, number(arg))
		}
		return out
	}
	if num, err := strconv.Atoi(s); err == nil {
		return api.Node{Kind: kInt, Num: num}
	}
	if s[0] >= 'A' && s[0] <= 'Z' {
		return api.Node{Kind: kVar}
	}
	return api.Node{Kind: kAtom, Name: name}
}

func number(s string) int {
	num, err := strconv.Atoi(s)
	if err != nil {
		panic(err)
	}
	return num
}

// read is a graph from its nodes and its roots, with blanks between.
func read(nodes, roots string) api.Graph {
	var g api.Graph
	for s := range strings.FieldsSeq(nodes) {
		g.Nodes = append(g.Nodes, node(s))
	}
	for s := range strings.FieldsSeq(roots) {
		g.Roots = append(g.Roots, number(s))
	}
	return g
}

// telling is all that a graph and names say.
func telling(g api.Graph, names []api.Named) string {
	var out strings.Builder
	for _, m := range g.Nodes {
		out.WriteString(strconv.Itoa(m.Kind) + " " + strconv.Quote(m.Name) + " " + strconv.Itoa(m.Num))
		for _, arg := range m.Args {
			out.WriteString(" " + strconv.Itoa(arg))
		}
		out.WriteString("; ")
	}
	out.WriteString("roots")
	for _, r := range g.Roots {
		out.WriteString(" " + strconv.Itoa(r))
	}
	for _, x := range names {
		out.WriteString(", " + strconv.Quote(x.Name) + " is " + strconv.Itoa(x.Node))
	}
	return out.String()
}

// short is a text as it is told when a test fails.
func short(s string) string {
	if len(s) > 400 {
		return s[:400] + ".. of " + strconv.Itoa(len(s)) + " bytes"
	}
	return s
}

// text is written terms as a source, as far as they can be written.
func text(x api.Terms) string {
	var roots, eqs []string
	for _, e := range x.Roots {
		s, _ := parse.Write(e)
		roots = append(roots, s)
	}
	for _, q := range x.Eqs {
		s, _ := parse.Write(q.Right)
		eqs = append(eqs, q.Name+" = "+s)
	}
	return short(strings.Join(roots, ", ") + " where " + strings.Join(eqs, ", "))
}

// wantTied stops the test unless both calls answer this graph, and Tie these names.
func wantTied(t *testing.T, x api.Terms, g api.Graph, names []api.Named) {
	t.Helper()
	got, told, err := tie.Tie(x.Roots, x.Eqs)
	if err != nil || telling(got, told) != telling(g, names) {
		t.Fatalf("Tie of %s:\n%s, %v, want\n%s", text(x), short(telling(got, told)), err, short(telling(g, names)))
	}
	got, err = tie.Read(x)
	if err != nil || telling(got, nil) != telling(g, nil) {
		t.Fatalf("Read of %s:\n%s, %v, want\n%s", text(x), short(telling(got, nil)), err, short(telling(g, nil)))
	}
}

// want stops the test unless a source is tied to this graph, with these names, as X=1.
func want(t *testing.T, source, nodes, roots, names string) {
	t.Helper()
	var list []api.Named
	for s := range strings.FieldsSeq(names) {
		name, at, _ := strings.Cut(s, "=")
		list = append(list, api.Named{Name: name, Node: number(at)})
	}
	wantTied(t, written(source), read(nodes, roots), list)
}

// P8.1: the chapter's examples, as they stand there.
func TestExamples(t *testing.T) {
	want(t, "X where X = [0|X]", ".(1,0) 0", "0", "X=0")
	want(t, "f(X, Y, X, _)", "f(1,2,1,3) X X X", "0", "X=1 Y=2")
	want(t, "f(X, Y) where X = Y, Y = X", "f(1,1) X", "0", "X=1 Y=1")
	want(t, "X where X = Y", "X", "0", "X=0 Y=0")
	want(t, "X where X = g(X), Y = X", "g(0)", "0", "X=0 Y=0")
	want(t, "a where X = X", "a", "0", "")
	want(t, "X where X = f(Y), Y = f(X)", "f(0)", "0", "X=0 Y=0")
	wantFault(t, written("X where X = a, X = b"), errEqTwice, 1, "X")
	wantFault(t, written("a where _ = b"), errEqName, 0, "_")
}

// P8.1: no terms, no equations, neither.
func TestNothing(t *testing.T) {
	none := api.Graph{}
	wantTied(t, api.Terms{}, none, nil)
	wantTied(t, terms([]api.Expr{}, []api.Eq{}), none, nil)
	wantTied(t, terms(make([]api.Expr, 0, 5), make([]api.Eq, 0, 5)), none, nil)
	// Without terms nothing is met.
	for _, source := range []string{"a where X = a", "a where X = X", "a where X = f(Y), Y = f(X)", "a where X = _, Y = Z"} {
		wantTied(t, terms(nil, written(source).Eqs), none, nil)
	}
	want(t, "a", "a", "0", "")
	want(t, "X", "X", "0", "X=0")
	want(t, "_", "X", "0", "")
	want(t, "-7", "-7", "0", "")
}

// P8.1: terms without equations; what is written alike is one node, but for variables _.
func TestTerms(t *testing.T) {
	want(t, "a, b, a", "a b", "0 1 0", "")
	want(t, "X, Y, X", "X X", "0 1 0", "X=0 Y=1")
	want(t, "_, _", "X X", "0 1", "")
	want(t, "f(_, X, _, X)", "f(1,2,3,2) X X X", "0", "X=2")
	want(t, "f(_), f(_), f(X), f(X)", "f(1) X f(3) X f(5) X", "0 2 4 4", "X=5")
	want(t, "_1, __, _a, _1", "X X X", "0 1 2 0", "_1=0 __=1 _a=2")
	want(t, "f(a, g(b), a, g(b), g(a))", "f(1,2,1,2,4) a g(3) b g(1)", "0", "")
	want(t, "f(1, '1', -1, 1, a)", "f(1,2,3,1,4) 1 '1' -1 a", "0", "")
	want(t, "f, f(f), f(f,f), f(f(f))", "f f(0) f(0,0) f(1)", "0 1 2 3", "")
	want(t, "[], [a], [a|X], [X,a]", "[] .(2,0) a .(2,4) X .(4,1)", "0 1 3 5", "X=4")
	want(t, "f(1,2,3,4,5,6,7,8)", "f(1,2,3,4,5,6,7,8) 1 2 3 4 5 6 7 8", "0", "")
	want(t, "1125899906842624, -1125899906842624, 0", "1125899906842624 -1125899906842624 0", "0 1 2", "")
	// An atom may have a variable's name, and a compound, too.
	want(t, "f(X, 'X', 'X'(X), '_', _)", "f(1,2,3,4,5) X 'X' 'X'(1) '_' X", "0", "X=1")
}

// P8.1, P8.2: names that lead to other names, to a term, to a variable.
func TestWaysOfNames(t *testing.T) {
	want(t, "X where X = a", "a", "0", "X=0")
	want(t, "X where X = -1", "-1", "0", "X=0")
	want(t, "X, Y where X = Y", "X", "0 0", "X=0 Y=0")
	want(t, "X, Y where Y = X", "X", "0 0", "X=0 Y=0")
	want(t, "X where X = Y, Y = Z", "X", "0", "X=0 Y=0 Z=0")
	want(t, "X where Y = Z, X = Y", "X", "0", "X=0 Y=0 Z=0")
	want(t, "X where X = Y, Y = a", "a", "0", "X=0 Y=0")
	want(t, "X where Y = a, X = Y", "a", "0", "X=0 Y=0")
	want(t, "X where X = Y, Y = Z, Z = f(W, X)", "f(1,0) X", "0", "X=0 Y=0 Z=0 W=1")
	want(t, "f(A, B, C, D, E) where A = C, B = C, C = D, E = D", "f(1,1,1,1,1) X", "0", "A=1 B=1 C=1 D=1 E=1")
	want(t, "f(A, B, C, D, E) where A = C, B = C, C = D, E = D, D = h", "f(1,1,1,1,1) h", "0", "A=1 B=1 C=1 D=1 E=1")
	want(t, "f(A, B, C) where A = B", "f(1,1,2) X X", "0", "A=1 B=1 C=2")
}

// P8.1, P8.2: circles of names, and names that lead into them.
func TestCirclesOfNames(t *testing.T) {
	want(t, "X where X = X", "X", "0", "X=0")
	want(t, "f(X, X, Y) where X = X", "f(1,1,2) X X", "0", "X=1 Y=2")
	want(t, "f(X, Y) where X = X, Y = Y", "f(1,2) X X", "0", "X=1 Y=2")
	want(t, "f(X, Y, Z) where X = Y, Y = Z, Z = X", "f(1,1,1) X", "0", "X=1 Y=1 Z=1")
	want(t, "f(X, Y, Z) where Z = X, Y = Z, X = Y", "f(1,1,1) X", "0", "X=1 Y=1 Z=1")
	want(t, "f(X, Y, Z) where X = Z, Z = Y, Y = X", "f(1,1,1) X", "0", "X=1 Y=1 Z=1")
	want(t, "f(A, B, C, D) where A = B, B = A, C = D, D = C", "f(1,1,2,2) X X", "0", "A=1 B=1 C=2 D=2")
	want(t, "X where X = Y, Y = Y", "X", "0", "X=0 Y=0")
	want(t, "X where Y = Y, X = Y", "X", "0", "X=0 Y=0")
	want(t, "f(A, B, Z) where A = B, B = C, C = D, D = B", "f(1,1,2) X X", "0", "A=1 B=1 Z=2 C=1 D=1")
	want(t, "f(A, B, C) where C = D, D = C, A = C, B = D", "f(1,1,1) X", "0", "A=1 B=1 C=1 D=1")
	// A name that is only in the circle is told with it, if the circle is met.
	want(t, "X where X = Y, Y = Z, Z = Y", "X", "0", "X=0 Y=0 Z=0")
	want(t, "X where Y = Z, Z = Y", "X", "0", "X=0")
}

// P8.1: the name _ in terms, in right sides, as a right side: each is a variable of its own.
func TestApart(t *testing.T) {
	want(t, "f(X, X) where X = _", "f(1,1) X", "0", "X=1")
	want(t, "f(X, Y) where X = _, Y = _", "f(1,2) X X", "0", "X=1 Y=2")
	want(t, "f(X, Y, _) where X = Y, Y = _", "f(1,1,2) X X", "0", "X=1 Y=1")
	want(t, "f(X, X) where X = g(_)", "f(1,1) g(2) X", "0", "X=1")
	want(t, "X, Y where X = g(_), Y = g(_)", "g(1) X g(3) X", "0 2", "X=0 Y=2")
	want(t, "X where X = f(_, X, _)", "f(1,0,2) X X", "0", "X=0")
	want(t, "f(X, _) where X = _, Y = X, Z = _", "f(1,2) X X", "0", "X=1 Y=1")
	want(t, "_ where X = _", "X", "0", "")
	// It has no part in a circle.
	want(t, "f(X, _, Y) where X = _, Y = X", "f(1,2,1) X X", "0", "X=1 Y=1")
	want(t, "_1 where _1 = _2, _2 = _1", "X", "0", "_1=0 _2=0")
}

// P8.1, P8.2: compounds that hold themselves, by one equation and by several.
func TestHoldThemselves(t *testing.T) {
	want(t, "X where X = f(X)", "f(0)", "0", "X=0")
	want(t, "X where X = f(Y), Y = X", "f(0)", "0", "X=0 Y=0")
	want(t, "g(X, f(X)) where X = f(X)", "g(1,1) f(1)", "0", "X=1")
	want(t, "X where X = f(Y), Y = g(X)", "f(1) g(0)", "0", "X=0 Y=1")
	want(t, "Y where X = f(Y), Y = g(X)", "g(1) f(0)", "0", "Y=0 X=1")
	want(t, "X where X = f(Y, X), Y = g(X)", "f(1,0) g(0)", "0", "X=0 Y=1")
	want(t, "X where X = f(X, Y), Y = g(X)", "f(0,1) g(0)", "0", "X=0 Y=1")
	want(t, "A where A = f(B), B = g(C), C = h(A, B, C, D)", "f(1) g(2) h(0,1,2,3) X", "0", "A=0 B=1 C=2 D=3")
	want(t, "X where X = [a, b|X]", ".(1,2) a .(3,0) b", "0", "X=0")
	want(t, "[X] where X = [X]", ".(0,1) []", "0", "X=0")
	want(t, "f(X) where X = f(X)", "f(0)", "0", "X=0")
}

// P8.1: terms that unfold alike are one node, though they are written otherwise.
func TestWrittenOtherwise(t *testing.T) {
	want(t, "X, Y where X = f(Y), Y = f(X)", "f(0)", "0 0", "X=0 Y=0")
	want(t, "X, Y where X = f(X), Y = f(f(f(Y)))", "f(0)", "0 0", "X=0 Y=0")
	want(t, "X, Y where X = f(X, a, X), Y = f(Y, a, f(Y, a, Y))", "f(0,1,0) a", "0 0", "X=0 Y=0")
	want(t, "[0, 0|X], X where X = [0|X]", ".(1,0) 0", "0 0", "X=0")
	want(t, "f(a), f(X), Y where X = a, Y = f(X)", "f(1) a", "0 0 0", "X=1 Y=0")
	want(t, "X, Y where X = g(Y, a), Y = g(X, b)", "g(1,3) g(0,2) b a", "0 1", "X=0 Y=1")
	want(t, "X, Y where X = g(Y, V), Y = g(X, W)", "g(1,3) g(0,2) X X", "0 1", "X=0 Y=1 V=3 W=2")
	want(t, "X, Y where X = g(Y, V), Y = g(X, V)", "g(0,1) X", "0 0", "X=0 Y=0 V=1")
	// What is met within a second writing of a term is met there no earlier.
	want(t, "X where X = f(g(X1, c), Y), X1 = f(g(X, c), Y), Y = b", "f(1,3) g(0,2) c b", "0", "X=0 X1=0 Y=3")
}

// P8.1: which names are told: those that stand for something that is met, in the order in which they occur.
func TestNames(t *testing.T) {
	want(t, "f(B, A) where C = B, A = D, E = E", "f(1,2) X X", "0", "B=1 A=2 C=1 D=2")
	want(t, "f(g(C, B), A), D, A", "f(1,4) g(2,3) X X X X", "0 5 4", "C=2 B=3 A=4 D=5")
	want(t, "V where B = A, A = V", "X", "0", "V=0 B=0 A=0")
	want(t, "V where A = V, B = A", "X", "0", "V=0 A=0 B=0")
	want(t, "X where X = f(Y)", "f(1) X", "0", "X=0 Y=1")
	want(t, "X where X = f(C, B, A)", "f(1,2,3) X X X", "0", "X=0 C=1 B=2 A=3")
	// A name that no term leads to stands for something that is met, if that unfolds alike.
	want(t, "f(a, a) where Y = f(X), X = a", "f(1,1) a", "0", "X=1")
	want(t, "a where Y = a", "a", "0", "Y=0")
	want(t, "f(V) where Y = g(Z), Z = f(V)", "f(1) X", "0", "V=1 Z=0")
	want(t, "X where X = f(X), Y = f(f(Y)), Z = g(Y)", "f(0)", "0", "X=0 Y=0")
	// Those that stand for something else aren't told.
	want(t, "a where Y = f(a)", "a", "0", "")
	want(t, "f(_) where Y = f(_)", "f(1) X", "0", "")
	want(t, "f(V) where Y = f(W)", "f(1) X", "0", "V=1")
	want(t, "X where Y = Z", "X", "0", "X=0")
	want(t, "f(a) where X = f(X), Y = a, Z = '1', U = f(Y), V = f(b)", "f(1) a", "0", "Y=1 U=0")
}

// P8.1, P8.3: equations that nothing leads to.
func TestNothingLeadsThere(t *testing.T) {
	want(t, "a, X where A = f(B), B = g(A, X), C = C, D = E, E = h(_)", "a X", "0 1", "X=1")
	want(t, "f(X) where X = b, A = f(A), B = A", "f(1) b", "0", "X=1")
	want(t, "f(X) where A = X, X = b, B = f(A)", "f(1) b", "0", "X=1 A=1 B=0")
}
