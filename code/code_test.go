package code_test

import (
	"slices"
	"strconv"
	"strings"
	"testing"

	"tendril/api"
	"tendril/code"
	"tendril/parse"
)

// The limits and the numbers are spelt here, apart from the program.
const (
	mostClauses = 256
	mostGoals   = 32
	mostPreds   = 128
	widest      = 8    // arguments
	most        = 4096 // terms, nodes in all, roots, and compounds within compounds
	longest     = 32   // bytes of a name
	great       = 1 << 50

	kVar  = 1
	kAtom = 2
	kInt  = 3
	kComp = 4

	call = 1
	eq   = 2
	dif  = 3

	errExprs    = 80
	errBig      = 85
	errClauses  = 160
	errGoals    = 161
	errTie      = 162
	errHead     = 163
	errGoal     = 164
	errDecl     = 165
	errUnknown  = 166
	errPreds    = 167
	errTemplate = 168
)

// Written terms.
func v(name string) api.Expr                   { return api.Expr{Kind: kVar, Name: name} }
func a(name string) api.Expr                   { return api.Expr{Kind: kAtom, Name: name} }
func n(num int) api.Expr                       { return api.Expr{Kind: kInt, Num: num} }
func c(name string, args ...api.Expr) api.Expr { return api.Expr{Kind: kComp, Name: name, Args: args} }

// Goals and clauses.
func calls(e api.Expr) api.Goal                         { return api.Goal{Kind: call, A: e} }
func one(x, y api.Expr) api.Goal                        { return api.Goal{Kind: eq, A: x, B: y} }
func unlike(x, y api.Expr) api.Goal                     { return api.Goal{Kind: dif, A: x, B: y} }
func clause(head api.Expr, body ...api.Goal) api.Clause { return api.Clause{Head: head, Body: body} }

// many is a term so many times.
func many(count int, e api.Expr) []api.Expr { return slices.Repeat([]api.Expr{e}, count) }

// within is a term in so many compounds.
func within(count int, e api.Expr) api.Expr {
	for range count {
		e = c("f", e)
	}
	return e
}

// applied is a name with so many arguments.
func applied(name string, arity int, arg api.Expr) api.Expr {
	if arity == 0 {
		return a(name)
	}
	return c(name, many(arity, arg)...)
}

// program is what a source says.
func program(source string) api.Program {
	p, err := parse.Program(source)
	if err != nil {
		panic(source + ": " + err.Error())
	}
	return p
}

// query is the goals that a source says; none, if it is empty.
func query(source string) []api.Goal {
	if source == "" {
		return nil
	}
	goals, err := parse.Query(source)
	if err != nil {
		panic(source + ": " + err.Error())
	}
	return goals
}

// node is a node from a short text: X a variable, a or 'X' an atom, -7 an integer, f(1,2) a compound.
func node(s string) api.Node {
	name, rest, comp := strings.Cut(s, "(")
	name = strings.Trim(name, "'")
	if comp {
		out := api.Node{Kind: kComp, Name: name}
		for arg := range strings.SplitSeq(strings.TrimSuffix(rest, ")"), ",") {
			out.Args = append(out.Args, number(arg))
		}
		return out
	}
	if num, err := strconv.Atoi(s); err == nil {
		return api.Node{Kind: kInt, Num: num}
	}
	if s[0] >= 'A' && s[0] <= 'Z' {
		return api.Node{Kind: kVar}
	}
	return api.Node{Kind: kAtom, Name: name}
}

func number(s string) int {
	num, err := strconv.Atoi(s)
	if err != nil {
		panic(err)
	}
	return num
}

// read is a graph from its nodes and its roots, with blanks between.
func read(nodes, roots string) api.Graph {
	var g api.Graph
	for s := range strings.FieldsSeq(nodes) {
		g.Nodes = append(g.Nodes, node(s))
	}
	for s := range strings.FieldsSeq(roots) {
		g.Roots = append(g.Roots, number(s))
	}
	return g
}

// rule is a rule from its predicate, its goals (= an equation, # a disequality, a number a call of that predicate), nodes and roots.
func rule(pred int, goals, nodes, roots string) api.Rule {
	r := api.Rule{Pred: pred, Graph: read(nodes, roots)}
	for s := range strings.FieldsSeq(goals) {
		switch s {
		case "=":
			r.Goals = append(r.Goals, api.Step{Kind: eq, Pred: -1})
		case "#":
			r.Goals = append(r.Goals, api.Step{Kind: dif, Pred: -1})
		default:
			r.Goals = append(r.Goals, api.Step{Kind: call, Pred: number(s)})
		}
	}
	return r
}

func pred(name string, arity int, co bool, clauses ...int) api.Pred {
	return api.Pred{Name: name, Arity: arity, Co: co, Clauses: clauses}
}

// tellRule is all that a rule says, with no difference between lists that are nil and that are empty.
func tellRule(r api.Rule) string {
	var out strings.Builder
	out.WriteString("of " + strconv.Itoa(r.Pred) + " goals")
	for _, s := range r.Goals {
		out.WriteString(" " + strconv.Itoa(s.Kind) + ":" + strconv.Itoa(s.Pred))
	}
	out.WriteString(" nodes")
	for _, m := range r.Graph.Nodes {
		out.WriteString(" " + strconv.Itoa(m.Kind) + strconv.Quote(m.Name) + strconv.Itoa(m.Num) + "(")
		for _, arg := range m.Args {
			out.WriteString(" " + strconv.Itoa(arg))
		}
		out.WriteString(")")
	}
	out.WriteString(" roots")
	for _, root := range r.Graph.Roots {
		out.WriteString(" " + strconv.Itoa(root))
	}
	return out.String()
}

// tellCode is all that a code says.
func tellCode(x api.Code) string {
	var out strings.Builder
	for _, p := range x.Preds {
		out.WriteString(strconv.Quote(p.Name) + "/" + strconv.Itoa(p.Arity) + " " + strconv.FormatBool(p.Co))
		for _, k := range p.Clauses {
			out.WriteString(" " + strconv.Itoa(k))
		}
		out.WriteString("; ")
	}
	for _, r := range x.Rules {
		out.WriteString("rule " + tellRule(r) + "; ")
	}
	return out.String()
}

// short is a text as it is told when a test fails.
func short(s string) string {
	if len(s) > 600 {
		return s[:600] + ".. of " + strconv.Itoa(len(s)) + " bytes"
	}
	return s
}

// wantCode stops the test unless a program has this code, and this is good.
func wantCode(t *testing.T, p api.Program, want api.Code) {
	t.Helper()
	got, err := code.Compile(p)
	if err != nil || tellCode(got) != tellCode(want) {
		t.Fatalf("%s\n%v, want\n%s", short(tellCode(got)), err, short(tellCode(want)))
	}
	if err := code.Check(got); err != nil {
		t.Fatalf("%s isn't good: %v", short(tellCode(got)), err)
	}
}

// wantQuery stops the test unless goals are compiled so.
func wantQuery(t *testing.T, x api.Code, goals []api.Goal, want api.Rule, names ...string) {
	t.Helper()
	got, told, err := code.Query(x, goals)
	if err != nil || tellRule(got) != tellRule(want) || !slices.Equal(told, names) {
		t.Fatalf("%s %.20q\n%v, want\n%s %.20q", short(tellRule(got)), told, err, short(tellRule(want)), names)
	}
}

func mustCompile(t *testing.T, p api.Program) api.Code {
	t.Helper()
	x, err := code.Compile(p)
	if err != nil {
		t.Fatal(err)
	}
	return x
}

// wantSelect stops the test unless just these clauses are left.
func wantSelect(t *testing.T, x api.Code, pred int, k api.Key, want ...int) {
	t.Helper()
	if got := code.Select(x, pred, k); !slices.Equal(got, want) {
		t.Fatalf("of %d, %v: %v, want %v; of %s", pred, k, got, want, short(tellCode(x)))
	}
}

// P16.1, P16.2: the chapter's examples.
func TestExamples(t *testing.T) {
	p := program("co s/1. s([H|T]) :- s(T).")
	want := api.Code{Preds: []api.Pred{pred("s", 1, true, 0)}, Rules: []api.Rule{rule(0, "0", ".(1,2) H T", "0 2")}}
	wantCode(t, p, want)
	wantQuery(t, want, query("s(X), X = [a|Y]."), rule(-1, "0 =", "X Y .(3,1) a", "0 1 0 0 2"), "X", "Y")

	wantRefused(t, program("p :- q."), errUnknown, 0, "q/0", nil)
	wantRefused(t, program("co p/1. co p/1."), errDecl, 1, "", nil)
	wantRefused(t, api.Program{Clauses: []api.Clause{clause(a("[]"))}}, errHead, 0, "", nil)

	x := mustCompile(t, program("p(a). p(X). p(f(Y)). p(b)."))
	wantSelect(t, x, 0, api.Key{Kind: kAtom, Name: "a"}, 0, 1)
	wantSelect(t, x, 0, api.Key{Kind: kComp, Name: "f", Arity: 1}, 1, 2)
	wantSelect(t, x, 0, api.Key{Kind: kInt}, 1)
	wantSelect(t, x, 0, api.Key{}, 0, 1, 2, 3)
}

// P16.1: ordinary programs.
func TestPrograms(t *testing.T) {
	wantCode(t, api.Program{}, api.Code{})
	wantCode(t, program("p."), api.Code{Preds: []api.Pred{pred("p", 0, false, 0)}, Rules: []api.Rule{rule(0, "", "", "")}})
	wantCode(t, program("nat(0). nat(s(N)) :- nat(N)."), api.Code{
		Preds: []api.Pred{pred("nat", 1, false, 0, 1)},
		Rules: []api.Rule{rule(0, "", "0", "0"), rule(0, "0", "s(1) N", "0 1")},
	})
	wantCode(t, program("member(X, [X|T]). member(X, [Y|T]) :- dif(X, Y), member(X, T)."), api.Code{
		Preds: []api.Pred{pred("member", 2, false, 0, 1)},
		Rules: []api.Rule{rule(0, "", "X .(0,2) T", "0 1"), rule(0, "# 0", "X .(2,3) Y T", "0 1 0 2 0 3")},
	})
	wantCode(t, program("e(X, Y) :- X = Y, q, dif(f(X), f(X)), r(a, _, X), q. q. r(A, B, 7) :- A = [B]."), api.Code{
		Preds: []api.Pred{pred("e", 2, false, 0), pred("q", 0, false, 1), pred("r", 3, false, 2)},
		Rules: []api.Rule{
			rule(0, "= 1 # 2 1", "X Y f(0) a V", "0 1 0 1 2 2 3 4 0"),
			rule(1, "", "", ""),
			rule(2, "=", "A B 7 .(1,4) '[]'", "0 1 2 0 3"),
		},
	})
	// Alike terms are one node, be they written twice or not; the head and its goals share them.
	wantCode(t, program("p(f(a), f(X), f(a)) :- p(f(X), a, f(f(a)))."), api.Code{
		Preds: []api.Pred{pred("p", 3, false, 0)},
		Rules: []api.Rule{rule(0, "0", "f(1) a f(3) X f(0)", "0 2 0 2 1 4")},
	})
}

// P16.1: which number a predicate has, and whether it is coinductive.
func TestPredicates(t *testing.T) {
	// Declared ones come first, in the order of the declarations, with clauses or without.
	wantCode(t, program("q. co p/1. r. co q/0. q. p(X). co s/8. r. q."), api.Code{
		Preds: []api.Pred{pred("p", 1, true, 3), pred("q", 0, true, 0, 2, 5), pred("s", 8, true), pred("r", 0, false, 1, 4)},
		Rules: []api.Rule{rule(1, "", "", ""), rule(3, "", "", ""), rule(1, "", "", ""), rule(0, "", "X", "0"), rule(3, "", "", ""), rule(1, "", "", "")},
	})
	// Then those of the heads, in the order of their first clauses, not of calls of them.
	wantCode(t, program("c :- a, b. a. b. a. c."), api.Code{
		Preds: []api.Pred{pred("c", 0, false, 0, 4), pred("a", 0, false, 1, 3), pred("b", 0, false, 2)},
		Rules: []api.Rule{rule(0, "1 2", "", ""), rule(1, "", "", ""), rule(2, "", "", ""), rule(1, "", "", ""), rule(0, "", "", "")},
	})
	// One name with other numbers of arguments is another predicate.
	wantCode(t, program("co p/1. p. p(X) :- p, p(X), p(X, X). p(X, Y). co p/3."), api.Code{
		Preds: []api.Pred{pred("p", 1, true, 1), pred("p", 3, true), pred("p", 0, false, 0), pred("p", 2, false, 2)},
		Rules: []api.Rule{rule(2, "", "", ""), rule(0, "2 0 3", "X", "0 0 0 0"), rule(3, "", "X Y", "0 1")},
	})
	// A predicate that is declared alone may be called.
	wantCode(t, program("co none/2. p :- none(X, Y)."), api.Code{
		Preds: []api.Pred{pred("none", 2, true), pred("p", 0, false, 0)},
		Rules: []api.Rule{rule(1, "0", "X Y", "0 1")},
	})
	wantCode(t, program("co a/0. co b/8."), api.Code{Preds: []api.Pred{pred("a", 0, true), pred("b", 8, true)}})
}

// P16.1: a predicate is coinductive wherever its declaration stands among the clauses (a program has them apart).
func TestCalledAheadOfItsClause(t *testing.T) {
	wantCode(t, program("p :- q. q :- p."), api.Code{
		Preds: []api.Pred{pred("p", 0, false, 0), pred("q", 0, false, 1)},
		Rules: []api.Rule{rule(0, "1", "", ""), rule(1, "0", "", "")},
	})
	wantRefused(t, program("p :- q. q :- p, r. r(X)."), errUnknown, 1, "r/0", nil)
}

// P16.1: the name _ is a variable of its own at each place, in programs and queries; other names that begin so are names.
func TestApart(t *testing.T) {
	wantCode(t, program("p(_, _) :- _ = _, dif(_, X), p(X, _)."), api.Code{
		Preds: []api.Pred{pred("p", 2, false, 0)},
		Rules: []api.Rule{rule(0, "= # 0", "A B C D E X F", "0 1 2 3 4 5 5 6")},
	})
	x := mustCompile(t, program("p(X, Y)."))
	wantQuery(t, x, query("p(_, _)."), rule(-1, "0", "A B", "0 1"))
	wantQuery(t, x, query("p(_, _1), dif(__, _), p(_1, f(_))."), rule(-1, "0 # 0", "A B C D f(5) E", "0 1 2 0 1 3 0 4"), "_1", "__")
}

// P16.1: queries: the variables come first, each once, in the order in which they occur.
func TestQueries(t *testing.T) {
	x := mustCompile(t, program("co s/1. s([H|T]) :- s(T). e. m(X, Y) :- X = Y."))
	wantQuery(t, x, nil, rule(-1, "", "", ""))
	wantQuery(t, api.Code{}, nil, rule(-1, "", "", ""))
	wantQuery(t, x, query("e."), rule(-1, "1", "", ""))
	wantQuery(t, x, query("e, e, 1 = 1."), rule(-1, "1 1 =", "1", "0 0"))
	wantQuery(t, x, query("m(Y, X), m(X, Z), s(Y)."), rule(-1, "2 2 0", "Y X Z", "0 1 2 0 1 1 2 0"), "Y", "X", "Z")
	wantQuery(t, x, query("X = f(Y, X), Y = g(X)."), rule(-1, "= =", "X Y f(1,0) g(0)", "0 1 0 2 1 3"), "X", "Y")
	wantQuery(t, x, query("m(f(g(B), A), [C|A]), dif(D, B)."), rule(-1, "2 #", "B A C D f(5,1) g(0) .(2,1)", "0 1 2 3 4 6 3 0"), "B", "A", "C", "D")
	wantQuery(t, api.Code{}, query("dif(f(X), f(a))."), rule(-1, "#", "X f(0) f(3) a", "0 1 2"), "X")
	// The second side of a goal counts behind the first.
	wantQuery(t, x, query("f(A) = B, dif(C, D), C = A."), rule(-1, "= # =", "A B C D f(0)", "0 1 2 3 4 1 2 3 2 0"), "A", "B", "C", "D")
	// An atom that is spelt like a variable is none.
	wantQuery(t, x, query("m('X', X), m('_', '_')."), rule(-1, "2 2", "X 'X' '_'", "0 1 0 2 2"), "X")
}

// P16.1: predicates may be told by hand: by codes that Compile never answers.
func TestQueriesOfOtherCodes(t *testing.T) {
	x := api.Code{
		Preds: []api.Pred{pred("[]", 0, false, 1), pred(".", 2, true, 0), pred("p", 1, true), pred("dif", 3, false)},
		Rules: []api.Rule{rule(1, "0 1", "X a X a", "1 0 2 2"), rule(0, "#", "X X", "1 1")},
	}
	if err := code.Check(x); err != nil {
		t.Fatal(err)
	}
	wantQuery(t, x, query("p(X), dif(X, Y, Z), dif(X, X)."), rule(-1, "2 3 #", "X Y Z", "0 1 2 0 0 1 2 0 0"), "X", "Y", "Z")
	wantQueryRefused(t, x, []api.Goal{calls(a("[]"))}, errGoal, 0, "", nil)
	wantQueryRefused(t, x, []api.Goal{calls(c(".", a("a"), a("b")))}, errGoal, 0, "", nil)
	wantQueryRefused(t, x, query("p, p(X)."), errUnknown, 0, "p/0", nil)
}

// P16.2: names of predicates, of any name and number.
func TestName(t *testing.T) {
	long := strings.Repeat("a", longest)
	for _, x := range []struct {
		name  string
		arity int
		want  string
	}{
		{"p", 0, "p/0"}, {"p", 8, "p/8"}, {"p", 9, "p/9"}, {"p", 10, "p/10"}, {"p", -1, "p/-1"}, {"p", 1 << 40, "p/1099511627776"}, {"p", -1 << 63, "p/-9223372036854775808"},
		{"A", 3, "'A'/3"}, {"_", 0, "'_'/0"}, {"[]", 0, "'[]'/0"}, {".", 2, "'.'/2"}, {"", 0, "''/0"}, {"a b", 1, "'a b'/1"}, {"a'\\", 2, `'a\'\\'/2`}, {"é", 0, "'é'/0"},
		{"aB_9", 1, "aB_9/1"}, {"9a", 1, "'9a'/1"}, {"a-b", 1, "'a-b'/1"}, {"dif", 2, "dif/2"}, {"co", 0, "co/0"}, {"where", 0, "where/0"}, {"p/1", 1, "'p/1'/1"},
		{long, 1, long + "/1"}, {long + "a", 1, "'" + long + "a'/1"}, {"\x00", 0, "'\x00'/0"},
	} {
		for _, co := range []bool{false, true} {
			if got := code.Name(pred(x.name, x.arity, co, 4, -1)); got != x.want {
				t.Errorf("%q/%d: %s, want %s", x.name, x.arity, got, x.want)
			}
		}
	}
	if got := code.Name(api.Pred{}); got != "''/0" {
		t.Error(got)
	}
}

// P16.2: keys of nodes; of what is no node, and of no kind, the zero Key.
func TestKey(t *testing.T) {
	g := read("X a -7 f(0,4,4) f(3) 0 'X' '.'(1,2)", "")
	want := []api.Key{{}, {Kind: kAtom, Name: "a"}, {Kind: kInt, Num: -7}, {Kind: kComp, Name: "f", Arity: 3}, {Kind: kComp, Name: "f", Arity: 1}, {Kind: kInt}, {Kind: kAtom, Name: "X"}, {Kind: kComp, Name: ".", Arity: 2}}
	for i, k := range want {
		if got := code.Key(g, i); got != k {
			t.Errorf("%d: %v, want %v", i, got, k)
		}
	}
	for _, i := range []int{-1, len(want), len(want) + 1, -1 << 63, 1<<63 - 1, 1 << 32, -len(want)} {
		if got := code.Key(g, i); got != (api.Key{}) {
			t.Errorf("%d: %v", i, got)
		}
		if got := code.Key(api.Graph{Roots: []int{0}}, i+1); got != (api.Key{}) {
			t.Errorf("of no nodes, %d: %v", i+1, got)
		}
	}
	// The spare room behind the nodes holds none.
	h := api.Graph{Nodes: g.Nodes[:2]}
	if got := code.Key(h, 2); got != (api.Key{}) {
		t.Error(got)
	}
}

// P16.2: a key of a node in a graph that isn't good tells just what it names of the node's kind.
func TestKeyOfOtherGraphs(t *testing.T) {
	strange := api.Node{Name: "strange", Num: 5, Args: []int{0, 99, -1}}
	for _, x := range []struct {
		kind int
		want api.Key
	}{
		{kVar, api.Key{}}, {kAtom, api.Key{Kind: kAtom, Name: "strange"}}, {kInt, api.Key{Kind: kInt, Num: 5}}, {kComp, api.Key{Kind: kComp, Name: "strange", Arity: 3}},
		{0, api.Key{}}, {5, api.Key{}}, {-1, api.Key{}}, {257, api.Key{}}, {1<<32 + 2, api.Key{}}, {6, api.Key{}},
	} {
		strange.Kind = x.kind
		if got := code.Key(api.Graph{Nodes: []api.Node{{}, strange}, Roots: []int{7}}, 1); got != x.want {
			t.Errorf("the kind %d: %v, want %v", x.kind, got, x.want)
		}
	}
	for _, x := range []struct {
		node api.Node
		want api.Key
	}{
		{api.Node{Kind: kComp, Name: "f"}, api.Key{Kind: kComp, Name: "f"}},
		{api.Node{Kind: kComp, Name: "", Args: make([]int, 9)}, api.Key{Kind: kComp, Arity: 9}},
		{api.Node{Kind: kAtom}, api.Key{Kind: kAtom}},
		{api.Node{Kind: kInt, Num: great + 1}, api.Key{Kind: kInt, Num: great + 1}},
	} {
		if got := code.Key(api.Graph{Nodes: []api.Node{x.node}}, 0); got != x.want {
			t.Errorf("%v: %v, want %v", x.node, got, x.want)
		}
	}
}

// P16.2: two keys go together if one is the zero Key, or they are equal in each field.
func TestTogether(t *testing.T) {
	var all []api.Key
	for _, kind := range []int{0, kVar, kAtom, kInt, kComp, -3} {
		for _, name := range []string{"", "a", "b"} {
			for _, num := range []int{0, 1, -1} {
				for _, arity := range []int{0, 1, 2} {
					all = append(all, api.Key{Kind: kind, Name: name, Num: num, Arity: arity})
				}
			}
		}
	}
	for i, x := range all {
		for j, y := range all {
			if got, want := code.Together(x, y), i == 0 || j == 0 || i == j; got != want {
				t.Errorf("%v and %v: %v", x, y, got)
			}
		}
	}
}

// P16.2: which clauses a key leaves.
func TestSelect(t *testing.T) {
	x := mustCompile(t, program("co none/1. r. p(a, 1). q(f(X)). p(X, 2). r :- r. p(1, 3). p(f(a), 4). p(f(X, Y), 5). p([], 6). p([H|T], 7). p(b, 8). r(a). p(Y, a). r. p(-1, 9). p(a, 10)."))
	for _, row := range []struct {
		key  api.Key
		want []int
	}{
		{api.Key{}, []int{1, 3, 5, 6, 7, 8, 9, 10, 12, 14, 15}},
		{api.Key{Kind: kAtom, Name: "a"}, []int{1, 3, 12, 15}},
		{api.Key{Kind: kAtom, Name: "b"}, []int{3, 10, 12}},
		{api.Key{Kind: kAtom, Name: "[]"}, []int{3, 8, 12}},
		{api.Key{Kind: kAtom, Name: "f"}, []int{3, 12}},
		{api.Key{Kind: kInt, Num: 1}, []int{3, 5, 12}},
		{api.Key{Kind: kInt, Num: -1}, []int{3, 12, 14}},
		{api.Key{Kind: kInt}, []int{3, 12}},
		{api.Key{Kind: kComp, Name: "f", Arity: 1}, []int{3, 6, 12}},
		{api.Key{Kind: kComp, Name: "f", Arity: 2}, []int{3, 7, 12}},
		{api.Key{Kind: kComp, Name: "f", Arity: 3}, []int{3, 12}},
		{api.Key{Kind: kComp, Name: ".", Arity: 2}, []int{3, 9, 12}},
		{api.Key{Kind: kComp, Name: "f", Arity: 1, Num: 1}, []int{3, 12}},
		{api.Key{Kind: kVar}, []int{3, 12}},
		{api.Key{Name: "a"}, []int{3, 12}},
		{api.Key{Kind: 99}, []int{3, 12}},
	} {
		wantSelect(t, x, 2, row.key, row.want...)
		// Of a predicate without arguments all are left, of one without clauses none.
		wantSelect(t, x, 1, row.key, 0, 4, 13)
		wantSelect(t, x, 0, row.key)
		for _, none := range []int{-1, len(x.Preds), len(x.Preds) + 1, -1 << 63, 1<<63 - 1, 1 << 32} {
			wantSelect(t, x, none, row.key)
		}
	}
	wantSelect(t, api.Code{}, 0, api.Key{})
}

// P16.2: it is the first root that counts, not the first node, nor a root of a goal.
func TestSelectByTheFirstRoot(t *testing.T) {
	x := api.Code{
		Preds: []api.Pred{pred("p", 2, false, 0, 1, 3), pred("e", 0, false, 2)},
		Rules: []api.Rule{rule(0, "", "a b X f(1)", "1 0"), rule(0, "=", "a b a", "2 1 1 0"), rule(1, "0", "a b", "1 0"), rule(0, "1", "a X", "1 0")},
	}
	wantSelect(t, x, 0, api.Key{Kind: kAtom, Name: "a"}, 1, 3)
	wantSelect(t, x, 0, api.Key{Kind: kAtom, Name: "b"}, 0, 3)
	wantSelect(t, x, 1, api.Key{Kind: kAtom, Name: "a"}, 2)
}
