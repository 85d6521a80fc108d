package session_test

import (
	"math"
	"slices"
	"strconv"
	"strings"
	"testing"

	"tendril/api"
	"tendril/session"
)

// Nodes.
func v() api.Node                         { return api.Node{Kind: kVar} }
func a(name string) api.Node              { return api.Node{Kind: kAtom, Name: name} }
func n(num int) api.Node                  { return api.Node{Kind: kInt, Num: num} }
func c(name string, args ...int) api.Node { return api.Node{Kind: kComp, Name: name, Args: args} }

// node is a node from a short text: X a variable, a an atom, -7 an integer, f(1,2) a compound.
func node(s string) api.Node {
	name, rest, comp := strings.Cut(s, "(")
	if comp {
		out := c(name)
		for arg := range strings.SplitSeq(strings.TrimSuffix(rest, ")"), ",") {
			out.Args = append(out.Args, number(arg))
		}
		return out
	}
	if num, err := strconv.Atoi(s); err == nil {
		return n(num)
	}
	if s[0] >= 'A' && s[0] <= 'Z' {
		return v()
	}
	return a(name)
}

func number(s string) int {
	num, err := strconv.Atoi(s)
	if err != nil {
		panic(err)
	}
	return num
}

// made is an answer from its nodes, its roots and its names, with blanks between.
func made(list, roots, names string, difs int) api.Answer {
	out := api.Answer{Vars: strings.Fields(names), Difs: difs}
	for s := range strings.FieldsSeq(list) {
		out.Graph.Nodes = append(out.Graph.Nodes, node(s))
	}
	for s := range strings.FieldsSeq(roots) {
		out.Graph.Roots = append(out.Graph.Roots, number(s))
	}
	return out
}

// notWhole is the fault of Show of an answer with too few roots, or with a name that is no variable.
func notWhole() *api.Fault { return refused(errShow, fault(errRoot, -1, "", nil)) }

// sessions is sessions of each state; an answer's text is the same of all.
func sessions(t *testing.T) []*session.Session {
	t.Helper()
	out := []*session.Session{nil, fresh(t, 1), loaded(t, 100, sample), asked(t, 100, sample, "X = a.")}
	last := asked(t, 100, sample, "X = a, dif(X, Y).")
	wantNext(t, last, 9, "X = a, Y = V1, dif(a, V1)")
	return append(out, last)
}

// wantShow stops the test unless an answer has this text.
func wantShow(t *testing.T, s *session.Session, x api.Answer, want string) {
	t.Helper()
	if got, err := s.Show(x); got != want || err != nil {
		t.Fatalf("%s: %s, %v, want %s", short(tellingAnswer(x)), short(got), err, short(want))
	}
}

// wantNoShow stops the test unless an answer is refused, with nothing beside it.
func wantNoShow(t *testing.T, s *session.Session, x api.Answer, want *api.Fault) {
	t.Helper()
	if got, err := s.Show(x); got != "" || !isFault(err, want) {
		t.Fatalf("%s: %s, %v, want %v", short(tellingAnswer(x)), short(got), err, want)
	}
}

// P19.1: Show: answers that are handed in.
func TestShow(t *testing.T) {
	for _, s := range sessions(t) {
		for _, x := range []struct {
			a    api.Answer
			want string
		}{
			{api.Answer{}, "yes"},
			{made("a", "0 0 0", "", 0), "yes"},
			{made("f(0)", "0 0", "", -5), "yes"},
			{made("a", "0", "X", 0), "X = a"},
			{made("a", "0 0 0", "X", 0), "X = a"},
			{made("f(1,0) X", "0", "X", 0), "X = E1 where E1 = f(V1,E1)"},
			{made("f(1,0) X", "1 0", "B A", 0), "B = V1, A = E1 where E1 = f(V1,E1)"},
			{made("f(1,0) X", "1 0", "", 1), "dif(V1, E1) where E1 = f(V1,E1)"},
			{made("f(1,0) X", "1 0 0 1 1 0", "A B", 2), "A = V1, B = E1, dif(E1, V1), dif(V1, E1) where E1 = f(V1,E1)"},
			// The two of a disequality may be one.
			{made("a X", "0 0 1 1", "", 2), "dif(a, a), dif(V1, V1)"},
			// Roots behind those that are told tell nothing: neither nodes of their own, nor that a node has a name.
			{made("f(1) g(2) X h(1) Y", "0 1 1 3 4 4", "X", 0), "X = E1 where E1 = f(g(V1))"},
			{made("f(1) g(2) X h(1) Y", "4 0 1 1 3 4 4", "Y X", 0), "Y = V1, X = E1 where E1 = f(g(V2))"},
			{made("f(1) g(2) X h(1) Y", "0 1 1 3 4 4", "X", 1), "X = E1, dif(E2, E2) where E1 = f(E2), E2 = g(V1)"},
			{made("f(1) g(2) X h(1) Y", "2 4 1 1 3 4 4", "", 1), "dif(V1, V2)"},
			{made("f(1) g(2) X h(1) Y", "2 4 1 1 3 4 4", "", 3), "dif(V1, V2), dif(E1, E1), dif(E2, V2) where E1 = g(V1), E2 = h(E1)"},
			{made("f(1) g(2) X h(1) Y", "2 4 1", "", 1), "dif(V1, V2)"},
			{made("f(1) g(2) X h(1) Y", "2 4 1", "Z", 0), "Z = V1"},
			// Disequalities below 0 count as none.
			{made("a X", "0 1 1", "X", -1), "X = a"},
			{made("a X", "0 1 1", "X", math.MinInt), "X = a"},
			{made("a X", "0 1 1", "X Y Z", -7), "X = a, Y = V1, Z = V1"},
			// Names that a query never has.
			{made("a", "0 0", "_ _", 0), "_ = a, _ = a"},
			{made("a X", "0 1 0", "X X X", 0), "X = a, X = V1, X = a"},
			{made("f(1) X", "0 1", "V1 E1", 0), "V1 = E1, E1 = V1 where E1 = f(V1)"},
			{made("a", "0", strings.Repeat("X", 32), 0), strings.Repeat("X", 32) + " = a"},
			// Nodes that unfold alike.
			{made("f(1) f(0) f(2)", "0 1 2", "X Y Z", 0), "X = E1, Y = E1, Z = E1 where E1 = f(E1)"},
			{made("a a f(0) f(1)", "2 3 0 1", "", 2), "dif(E1, E1), dif(a, a) where E1 = f(a)"},
			// What stands between the pieces stands in names, too.
			{made("where where(0) g(1,1)", "0 2 0 2 1", "X Y Z", 1), "X = where, Y = E1, Z = where, dif(E1, E2) where E1 = g(E2,E2), E2 = where(where)"},
			{made("where X", "0 0 1 0", "X Y", 1), "X = where, Y = where, dif(V1, where)"},
			{made("where f(0)", "1 0", "X Y", 0), "X = E1, Y = where where E1 = f(where)"},
			{made(", =", "0 1 0 1", "X Y", 1), "X = ',', Y = '=', dif(',', '=')"},
			{made("dif(1,1) yes", "0 1", "X Y", 0), "X = E1, Y = yes where E1 = dif(yes,yes)"},
			// Lists.
			{made(".(1,2) a .(3,4) b []", "0 4 1 2", "X Y", 1), "X = E1, Y = [], dif(a, E2) where E1 = [a|E2], E2 = [b]"},
			{made(".(1,2) a .(3,4) b []", "0 4 1 2", "X Y Z", 0), "X = E1, Y = [], Z = a where E1 = [a,b]"},
		} {
			wantShow(t, s, x.a, x.want)
			wantShow(t, s, x.a, textOf(x.a))
			wantReadBack(t, x.a, x.want)
			// Its proof makes no difference.
			x.a.Proofs = []api.Proof{{Kind: 1, Pred: 7, Parent: 3, Place: -1, Rule: 9, Hyp: 9, First: 1 << 40, Count: -5}, {}}
			wantShow(t, s, x.a, x.want)
			x.a.Graph.Roots = append(x.a.Graph.Roots, make([]int, min(len(x.a.Graph.Nodes), 1))...)
			wantShow(t, s, x.a, x.want)
		}
	}
}

// P19.1: Show: graphs that aren't good, at each place, whatever else is wrong, and wherever a root leads.
func TestShowBadGraphs(t *testing.T) {
	bad := func(code, at int) *api.Fault { return refused(errShow, fault(code, at, "", nil)) }
	for _, s := range sessions(t) {
		for _, also := range []api.Answer{{}, {Vars: []string{"X"}}, {Vars: []string{"x", "Y", "Z"}}, {Difs: 1}, {Difs: math.MaxInt}, {Vars: []string{"X"}, Difs: math.MinInt}} {
			show := func(g api.Graph, want *api.Fault) {
				t.Helper()
				also.Graph = g
				wantNoShow(t, s, also, want)
			}
			for _, m := range []api.Node{{}, {Kind: 5}, {Kind: kVar, Name: "X"}, {Kind: kAtom}, {Kind: kAtom, Name: "a b"}, {Kind: kInt, Num: great + 1}, {Kind: kComp, Name: "f"}, c("f", 3), c("f", -1), c("f", 0, 0, 0, 0, 0, 0, 0, 0, 0)} {
				for at := range 3 {
					g := made("f(1,2) X a", "0 1 2", "", 0).Graph
					g.Nodes[at] = m
					show(g, bad(errGraph, at))
					// Also of nodes to which no root leads.
					g.Roots = nil
					show(g, bad(errGraph, at))
				}
			}
			for at := range 4 {
				for _, r := range []int{-1, 3, math.MaxInt, math.MinInt} {
					g := made("f(1,2) X a", "0 1 2 0", "", 0).Graph
					// Also of roots that aren't told.
					g.Roots[at] = r
					show(g, bad(errRoot, at))
				}
			}
			show(api.Graph{Nodes: slices.Repeat([]api.Node{v()}, mostNodes+1), Roots: []int{-1}}, bad(errNodes, mostNodes+1))
			show(api.Graph{Nodes: []api.Node{v()}, Roots: make([]int, mostNodes+3)}, bad(errRoots, mostNodes+3))
		}
	}
}

// P19.1: Show: fewer roots than the names, and these with the disequalities, ask for.
func TestShowFewRoots(t *testing.T) {
	for _, s := range sessions(t) {
		for roots := range 7 {
			for vars := range 8 {
				for difs := -2; difs < 5; difs++ {
					x := api.Answer{Graph: api.Graph{Nodes: []api.Node{a("b")}, Roots: make([]int, roots)}, Difs: difs}
					for i := range vars {
						x.Vars = append(x.Vars, "X"+strconv.Itoa(i))
					}
					if vars+2*max(difs, 0) > roots {
						wantNoShow(t, s, x, notWhole())
					} else {
						wantShow(t, s, x, textOf(x))
					}
				}
			}
		}
		for _, difs := range []int{math.MaxInt, math.MaxInt - 1, math.MaxInt/2 + 1, math.MaxInt / 2, math.MaxInt/2 + 2, 1 << 62, 1<<62 + 1, 3 << 61} {
			wantNoShow(t, s, made("a", "0 0 0 0", "", difs), notWhole())
			wantNoShow(t, s, made("a", "0 0 0 0", "X Y", difs), notWhole())
			wantNoShow(t, s, made("a", "0", "X Y", difs), notWhole())
		}
		for _, difs := range []int{0, -1, math.MinInt, math.MinInt + 1, -1 << 62} {
			wantNoShow(t, s, made("a", "0", "X Y", difs), notWhole())
			wantNoShow(t, s, made("", "", "X", difs), notWhole())
		}
	}
}

// P19.1: Show: names that are no variables, at each place.
func TestShowBadNames(t *testing.T) {
	for _, s := range sessions(t) {
		for _, name := range []string{"", "x", "X ", " X", "X Y", "7", "É", "[]", "X=", "'X'", "X%", strings.Repeat("X", 33)} {
			for at := range 3 {
				x := made("a", "0 0 0 0 0", "X Y Z", 1)
				x.Vars[at] = name
				wantNoShow(t, s, x, notWhole())
				x.Difs = -1
				wantNoShow(t, s, x, notWhole())
			}
		}
	}
}

// P19.1, P19.2: Show: as many roots, nodes and names as there may be.
func TestShowLarge(t *testing.T) {
	s := fresh(t, 1)
	x := api.Answer{Graph: api.Graph{Nodes: []api.Node{v()}, Roots: make([]int, mostNodes)}, Difs: mostNodes / 2}
	wantShow(t, s, x, strings.TrimSuffix(strings.Repeat("dif(V1, V1), ", mostNodes/2), ", "))
	x.Difs = 0
	for i := range mostNodes {
		x.Vars = append(x.Vars, "X"+strconv.Itoa(i))
	}
	wantShow(t, s, x, strings.TrimSuffix(repeated("X# = V1, ", mostNodes), ", "))
	x.Vars = append(x.Vars, "X")
	wantNoShow(t, s, x, notWhole())
	// All nodes are variables.
	x = api.Answer{Difs: mostNodes/2 - 1, Vars: []string{"A", "B"}}
	for i := range mostNodes {
		x.Graph.Nodes, x.Graph.Roots = append(x.Graph.Nodes, v()), append(x.Graph.Roots, i)
	}
	text, err := s.Show(x)
	if err != nil || text != textOf(x) {
		t.Fatal(short(text), err)
	}
	wantReadBack(t, x, text)
	// Compounds within one another, with names and without.
	x = api.Answer{Vars: []string{"X"}}
	for i := range mostNodes - 1 {
		x.Graph.Nodes = append(x.Graph.Nodes, c("f", i+1))
	}
	x.Graph.Nodes, x.Graph.Roots = append(x.Graph.Nodes, v()), []int{0, 1}
	wantShow(t, s, x, "X = E1 where E1 = "+strings.Repeat("f(", mostNodes-1)+"V1"+strings.Repeat(")", mostNodes-1))
	x.Graph.Nodes[mostNodes-1], x.Difs, x.Vars = c("f", 1, 0), 1, nil
	text, err = s.Show(x)
	if err != nil || text != textOf(x) {
		t.Fatal(short(text), err)
	}
	wantReadBack(t, x, text)
}

// P19.2: the text of all small graphs with all choices of roots, held against the chapter's words, and read back.
func TestSmallGraphs(t *testing.T) {
	s := fresh(t, 1)
	kinds := []string{"X", "a", "where", "f(0)", "f(1)", "g(0,1)", "g(1,1)", ".(0,1)", ".(1,0)"}
	count := 0
	for _, one := range kinds {
		for _, other := range kinds {
			for roots := range 16 {
				for difs := range 3 {
					x := made(one+" "+other, "", "", difs)
					for bit := range 4 {
						x.Graph.Roots = append(x.Graph.Roots, roots>>bit&1)
					}
					x.Vars = []string{"X", "E1", "_", "V1"}[:4-2*difs]
					for len(x.Vars) > 0 {
						text, err := s.Show(x)
						if want := textOf(x); text != want || err != nil {
							t.Fatalf("%s: %s, %v, want %s", tellingAnswer(x), text, err, want)
						}
						wantReadBack(t, x, text)
						count++
						x.Vars = x.Vars[1:]
					}
				}
			}
		}
	}
	if count < 7000 {
		t.Error(count)
	}
}
