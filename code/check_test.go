package code_test

import (
	"math"
	"slices"
	"strconv"
	"strings"
	"testing"

	"tendril/api"
	"tendril/code"
)

// sample is a good code in which predicates, rules and goals of each kind stand.
func sample() api.Code {
	return api.Code{
		Preds: []api.Pred{pred("p", 2, false, 0, 2, 4), pred("q", 0, true, 1), pred("none", 1, true), pred("p", 1, false, 3)},
		Rules: []api.Rule{
			rule(0, "0 = 1 #", "X f(0,2) a", "0 1 1 2 2 2 0 1"),
			rule(1, "", "", ""),
			rule(0, "2", "X a a", "1 0 2"),
			rule(3, "= 3", "7 X", "0 1 1 1"),
			rule(0, "1", "b X", "0 1"),
		},
	}
}

// wantGood stops the test unless a code is good, at each call that asks.
func wantGood(t *testing.T, x api.Code) {
	t.Helper()
	if err := code.Check(x); err != nil {
		t.Fatalf("%v: %s", err, short(tellCode(x)))
	}
	if r, _, err := code.Query(x, query("X = a.")); err != nil || tellRule(r) != tellRule(rule(-1, "=", "X a", "0 0 1")) {
		t.Fatal(r, err)
	}
	for i, p := range x.Preds {
		wantSelect(t, x, i, api.Key{}, p.Clauses...)
	}
}

// wantNotGood stops the test unless a code isn't good, at each call that asks.
func wantNotGood(t *testing.T, x api.Code) {
	t.Helper()
	if err := code.Check(x); !isFault(err, errTemplate, -1, "", nil) {
		t.Fatalf("%v: %s", err, short(tellCode(x)))
	}
	wantQueryRefused(t, x, query("X = a."), errTemplate, -1, "", nil)
	wantQueryRefused(t, x, nil, errTemplate, -1, "", nil)
	for i := -1; i <= min(len(x.Preds), 200); i++ {
		wantSelect(t, x, i, api.Key{})
		wantSelect(t, x, i, api.Key{Kind: kAtom, Name: "a"})
	}
}

// P16.2: codes that are good.
func TestGoodCodes(t *testing.T) {
	wantGood(t, sample())
	wantGood(t, api.Code{})
	wantGood(t, api.Code{Preds: []api.Pred{}, Rules: []api.Rule{}})
	wantGood(t, api.Code{Preds: []api.Pred{{Name: "p", Clauses: []int{}}}})
	long := strings.Repeat("~", longest)
	for _, name := range []string{"!", "[]", ".", "X", "_", "co", "where", long, "'", "a/1", "dif"} {
		for _, arity := range []int{0, 1, 3, 8} {
			x := sample()
			x.Preds[2].Name, x.Preds[2].Arity = name, arity
			x.Rules[2].Graph.Roots = make([]int, 2+arity)
			wantGood(t, x)
		}
	}
	for _, name := range []string{"[]", ".", "Dif", "diff"} {
		x := sample()
		x.Preds[0].Name = name
		wantGood(t, x)
	}
	// One that is coinductive or not is good alike.
	x := sample()
	for i := range x.Preds {
		x.Preds[i].Co = !x.Preds[i].Co
	}
	wantGood(t, x)
	// A graph need not be the least one: nodes that nobody asks for, alike ones, circles.
	x = sample()
	x.Rules[0].Graph.Nodes = append(x.Rules[0].Graph.Nodes, node("X"), node("g(5,0)"), node("h(4)"))
	x.Rules[2].Graph = read("f(1) f(0) f(0) a a", "0 2 2")
	wantGood(t, x)
}

// P16.2: codes that aren't good by their predicates, at the first, a middle and the last place.
func TestBadPredicates(t *testing.T) {
	for at := range 4 {
		for _, name := range []string{"", " ", "a b", "a\n", "\x00", "\x7f", "é", "\xff", strings.Repeat("x", longest+1), strings.Repeat("x", 100000)} {
			x := sample()
			x.Preds[at].Name = name
			wantNotGood(t, x)
		}
		for _, arity := range []int{-1, -2, 9, 10, math.MinInt, math.MaxInt, 1 << 32, 256 + 1} {
			x := sample()
			x.Preds[at].Arity = arity
			wantNotGood(t, x)
			// Of a predicate alone no rule asks for roots.
			wantNotGood(t, api.Code{Preds: []api.Pred{pred("a", 0, false), pred("b", arity, false), pred("c", 0, false)}})
		}
		// Two with the same name and number of arguments, be they of one kind or not.
		for other := range 4 {
			if other != at {
				x := sample()
				x.Preds[at].Name, x.Preds[at].Arity = x.Preds[other].Name, x.Preds[other].Arity
				wantNotGood(t, x)
			}
		}
	}
	wantNotGood(t, api.Code{Preds: []api.Pred{pred("a", 1, false), pred("b", 1, false), pred("a", 1, false)}})
	wantNotGood(t, api.Code{Preds: []api.Pred{pred("a", 1, true), pred("a", 1, false)}})
	wantGood(t, api.Code{Preds: []api.Pred{pred("a", 1, true), pred("a", 2, true), pred("b", 1, true)}})
	// dif with two, with clauses and without.
	for at := range 3 {
		x := api.Code{Preds: []api.Pred{pred("a", 2, false), pred("b", 2, false), pred("c", 2, false)}}
		wantGood(t, x)
		x.Preds[at].Name = "dif"
		wantNotGood(t, x)
	}
	x := sample()
	x.Preds[0].Name = "dif"
	wantNotGood(t, x)
}

// P16.2: codes that aren't good, since a predicate's clauses aren't just its rules, rising.
func TestBadClauses(t *testing.T) {
	for _, list := range [][]int{nil, {}, {0}, {2}, {0, 2}, {0, 4}, {2, 4}, {4, 2, 0}, {0, 4, 2}, {2, 0, 4}, {0, 2, 2, 4}, {0, 0, 2, 4}, {0, 2, 4, 4}, {0, 1, 2, 4}, {0, 2, 3, 4}, {0, 2, 4, 5}, {-1, 0, 2, 4}, {0, 2, 4, 1 << 40}, {0, 2, 3}, {0, 2, 4, -1}, {1, 2, 4}} {
		x := sample()
		x.Preds[0].Clauses = list
		wantNotGood(t, x)
	}
	for _, list := range [][]int{{}, {0}, {0, 1}, {1, 1}, {2}, {1, 2}, {5}, {-1}} {
		x := sample()
		x.Preds[1].Clauses = list
		wantNotGood(t, x)
	}
	for _, list := range [][]int{{0}, {3}, {5}, {-1}, {1, 2}} {
		x := sample()
		x.Preds[2].Clauses = list
		wantNotGood(t, x)
	}
	// A clause of the one that the other has, and both have it.
	x := sample()
	x.Preds[0].Clauses, x.Preds[3].Clauses = x.Preds[3].Clauses, x.Preds[0].Clauses
	wantNotGood(t, x)
	x = sample()
	x.Rules[4].Pred = 3
	x.Rules[4].Graph.Roots = []int{0}
	wantNotGood(t, x)
	x.Preds[0].Clauses = []int{0, 2}
	wantNotGood(t, x)
	x.Preds[3].Clauses = []int{3, 4}
	wantGood(t, x)
	// Spare room behind the clauses is no part of them.
	x = sample()
	x.Preds[0].Clauses = []int{0, 2, 4, 7}[:3]
	wantGood(t, x)
	x.Preds[0].Clauses = []int{0, 2, 4}[:2]
	wantNotGood(t, x)
}

// P16.2: codes that aren't good by a rule: its predicate, its goals, its graph.
func TestBadRules(t *testing.T) {
	for at := range 5 {
		for _, number := range []int{-1, 4, 5, math.MinInt, math.MaxInt, 1 << 32} {
			x := sample()
			x.Rules[at].Pred = number
			wantNotGood(t, x)
			x = sample()
			own := x.Rules[at].Pred
			x.Preds[own].Clauses = slices.DeleteFunc(x.Preds[own].Clauses, func(k int) bool { return k == at })
			x.Rules[at].Pred = number
			wantNotGood(t, x)
		}
		for _, s := range []api.Step{{}, {Kind: 0, Pred: -1}, {Kind: 4, Pred: -1}, {Kind: -1, Pred: -1}, {Kind: 257, Pred: 1}, {Kind: 1<<32 + 1, Pred: 1},
			{Kind: call, Pred: -1}, {Kind: call, Pred: 4}, {Kind: call, Pred: math.MaxInt}, {Kind: call, Pred: math.MinInt},
			{Kind: eq}, {Kind: eq, Pred: 1}, {Kind: eq, Pred: -2}, {Kind: dif}, {Kind: dif, Pred: 2}, {Kind: dif, Pred: -2}} {
			for roots := range 3 {
				x := sample()
				r := &x.Rules[at]
				r.Graph.Nodes = append(r.Graph.Nodes, node("a"))
				r.Graph.Roots = append(r.Graph.Roots, make([]int, roots)...)
				r.Goals = slices.Insert(r.Goals, len(r.Goals)/2, s)
				wantNotGood(t, x)
			}
		}
		// A root too many, or too few.
		for _, more := range []int{1, 2, 5} {
			x := sample()
			r := &x.Rules[at]
			r.Graph.Nodes = append(r.Graph.Nodes, node("a"))
			wantGood(t, x)
			r.Graph.Roots = append(r.Graph.Roots, make([]int, more)...)
			wantNotGood(t, x)
			x = sample()
			if r := &x.Rules[at]; len(r.Graph.Roots) >= more {
				r.Graph.Roots = r.Graph.Roots[more:]
				wantNotGood(t, x)
			}
		}
	}
	wantNotGood(t, api.Code{Rules: []api.Rule{{}}})
	wantNotGood(t, api.Code{Rules: []api.Rule{{Pred: -1}}})
}

// P16.2: goals ask for as many roots as there are: of each kind, of each number of arguments.
func TestRootsOfGoals(t *testing.T) {
	var x api.Code
	for arity := range widest + 1 {
		x.Preds = append(x.Preds, pred("p"+strconv.Itoa(arity), arity, false))
	}
	x.Rules, x.Preds[3].Clauses = []api.Rule{rule(3, "", "a", "0 0 0")}, []int{0}
	steps := []api.Step{{Kind: eq, Pred: -1}, {Kind: dif, Pred: -1}}
	for arity := range widest + 1 {
		steps = append(steps, api.Step{Kind: call, Pred: arity})
	}
	asks := func(s api.Step) int {
		if s.Kind == call {
			return s.Pred
		}
		return 2
	}
	for _, first := range steps {
		for _, second := range steps {
			x.Rules[0].Goals = []api.Step{first, second}
			for roots := range 2*widest + 5 {
				x.Rules[0].Graph.Roots = make([]int, roots)
				if roots == 3+asks(first)+asks(second) {
					wantGood(t, x)
				} else {
					wantNotGood(t, x)
				}
			}
		}
	}
}

// P16.2: codes that aren't good by a rule's graph.
func TestBadGraphs(t *testing.T) {
	nodes := []api.Node{{}, {Kind: 5}, {Kind: -1}, {Kind: kVar, Name: "X"}, {Kind: kVar, Num: 1}, {Kind: kVar, Args: []int{0}}, {Kind: kAtom}, {Kind: kAtom, Name: "a b"}, {Kind: kAtom, Name: "a", Num: 1}, {Kind: kAtom, Name: "a", Args: []int{0}},
		{Kind: kInt, Name: "1"}, {Kind: kInt, Num: great + 1}, {Kind: kInt, Num: -great - 1}, {Kind: kInt, Args: []int{0}}, {Kind: kComp, Name: "f"}, {Kind: kComp, Name: "f", Args: []int{9}}, {Kind: kComp, Name: "f", Args: []int{0, -1}}, {Kind: kComp, Args: []int{0}}, {Kind: kComp, Name: "f", Num: 1, Args: []int{0}}, {Kind: kComp, Name: "f", Args: make([]int, 9)}}
	for at := range 5 {
		for _, m := range nodes {
			x := sample()
			x.Rules[at].Graph.Nodes = append(x.Rules[at].Graph.Nodes, m)
			wantNotGood(t, x)
		}
		for _, root := range []int{-1, 3, 1 << 40, -1 << 63} {
			x := sample()
			if roots := x.Rules[at].Graph.Roots; len(roots) > 0 {
				roots[len(roots)-1] = root
				wantNotGood(t, x)
			}
		}
		x := sample()
		for len(x.Rules[at].Graph.Nodes) < most {
			x.Rules[at].Graph.Nodes = append(x.Rules[at].Graph.Nodes, node("a"))
		}
		wantGood(t, x)
		x.Rules[at].Graph.Nodes = append(x.Rules[at].Graph.Nodes, node("a"))
		wantNotGood(t, x)
	}
}

// P16.2: the limits of a code: predicates, rules, goals.
func TestLimitsOfCodes(t *testing.T) {
	preds := func(count int) []api.Pred {
		var out []api.Pred
		for _, d := range declared("d", count) {
			out = append(out, pred(d.Name, d.Arity, false))
		}
		return out
	}
	wantGood(t, api.Code{Preds: preds(mostPreds - 1)})
	wantGood(t, api.Code{Preds: preds(mostPreds)})
	wantNotGood(t, api.Code{Preds: preds(mostPreds + 1)})
	wantNotGood(t, api.Code{Preds: preds(100000)})
	rules := func(count int) api.Code {
		x := api.Code{Preds: []api.Pred{pred("a", 0, false), pred("b", 0, false)}}
		for i := range count {
			x.Rules = append(x.Rules, rule(i%2, "1", "", ""))
			x.Preds[i%2].Clauses = append(x.Preds[i%2].Clauses, i)
		}
		return x
	}
	wantGood(t, rules(mostClauses-1))
	wantGood(t, rules(mostClauses))
	wantNotGood(t, rules(mostClauses+1))
	wantNotGood(t, rules(100000))
	for _, at := range []int{0, 3, 6} {
		for _, count := range []int{mostGoals - 1, mostGoals, mostGoals + 1, mostGoals + 2, 100000} {
			x := rules(7)
			x.Rules[at].Goals = slices.Repeat([]api.Step{{Kind: call}}, count)
			if count <= mostGoals {
				wantGood(t, x)
			} else {
				wantNotGood(t, x)
			}
		}
	}
}
