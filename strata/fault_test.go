package strata_test

import (
	"math"
	"strconv"
	"strings"
	"testing"

	"tendril/api"
	"tendril/code"
	"tendril/strata"
)

// wantNotGood stops the test unless a code is refused by each call, with nothing beside the fault.
func wantNotGood(t *testing.T, x api.Code) {
	t.Helper()
	circles, err := strata.Circles(x)
	if !isFault(err, errTemplate, -1, "") || circles != nil {
		t.Fatal(circles, err)
	}
	levels, err := strata.Levels(x)
	if !isFault(err, errTemplate, -1, "") || levels != nil {
		t.Fatal(levels, err)
	}
	if err := strata.Check(x); !isFault(err, errTemplate, -1, "") {
		t.Fatal(err)
	}
}

// sample is a good code with all kinds of goals: p/2 and q/0 call one another, none/1 has no clause, p/1 calls all; it is stratified, or isn't.
func sample(stratified bool) api.Code {
	x := api.Code{Preds: []api.Pred{{Name: "p", Arity: 2, Co: true}, {Name: "q", Co: stratified}, {Name: "none", Arity: 1}, {Name: "p", Arity: 1}}}
	addRule(&x, 0, []api.Step{{Kind: eq, Pred: -1}, {Kind: call, Pred: 1}, {Kind: dif, Pred: -1}})
	addRule(&x, 1, calls(0))
	addRule(&x, 0, calls(2, 1))
	addRule(&x, 3, append(calls(3, 2, 1, 0), api.Step{Kind: eq, Pred: -1}))
	addRule(&x, 0, nil)
	return x
}

// wantSpoilt stops the test unless the sample is good, and isn't any more when it is spoilt, be it stratified or not.
func wantSpoilt(t *testing.T, how string, spoil func(x *api.Code)) {
	t.Helper()
	for _, stratified := range []bool{true, false} {
		x := sample(stratified)
		at := fine
		if !stratified {
			at = 0
		}
		want(t, x, []int{0, 0, 2, 3}, []int{1, 1, 0, 2}, at)
		spoil(&x)
		if code.Check(x) == nil {
			t.Fatalf("%s: the code is good", how)
		}
		wantNotGood(t, x)
	}
}

// P17.1: codes that aren't good by their predicates.
func TestBadPredicates(t *testing.T) {
	for at := range 4 {
		for _, name := range []string{"", " ", "a b", "a\n", "\x00", "\x7f", "é", strings.Repeat("x", 33)} {
			wantSpoilt(t, "name "+strconv.Quote(name), func(x *api.Code) { x.Preds[at].Name = name })
		}
		for _, arity := range []int{-1, 9, math.MinInt, math.MaxInt} {
			wantSpoilt(t, "arity "+strconv.Itoa(arity), func(x *api.Code) { x.Preds[at].Arity = arity })
			x := sample(false)
			x.Preds = append(x.Preds, api.Pred{Name: "further", Arity: arity})
			wantNotGood(t, x)
		}
		for other := range 4 {
			if other != at {
				wantSpoilt(t, "twice", func(x *api.Code) {
					x.Preds[at].Name, x.Preds[at].Arity = x.Preds[other].Name, x.Preds[other].Arity
				})
			}
		}
	}
	// Those that no rule asks for: two alike of unlike kinds, dif with two.
	for _, co := range []bool{true, false} {
		wantNotGood(t, api.Code{Preds: []api.Pred{{Name: "a", Arity: 1, Co: co}, {Name: "b", Arity: 1}, {Name: "a", Arity: 1}}})
		wantNotGood(t, api.Code{Preds: []api.Pred{{Name: "a", Arity: 2}, {Name: "dif", Arity: 2, Co: co}}})
	}
	wantSpoilt(t, "dif", func(x *api.Code) { x.Preds[0].Name = "dif" })
	want(t, api.Code{Preds: []api.Pred{{Name: "a", Arity: 1}, {Name: "b", Arity: 1}, {Name: "a", Arity: 2}, {Name: "dif", Arity: 1}}}, upTo(4), same(4, 0), fine)
}

// P17.1: codes that aren't good since a predicate's clauses aren't just its rules, rising.
func TestBadClauses(t *testing.T) {
	for _, list := range [][]int{nil, {0}, {0, 2}, {2, 4}, {4, 2, 0}, {0, 4, 2}, {0, 2, 2, 4}, {0, 1, 2, 4}, {0, 2, 3}, {0, 2, 4, 5}, {-1, 0, 2, 4}, {0, 2, math.MaxInt}} {
		wantSpoilt(t, "clauses", func(x *api.Code) { x.Preds[0].Clauses = list })
	}
	for _, list := range [][]int{nil, {0}, {0, 1}, {1, 1}, {2}, {5}, {-1}} {
		wantSpoilt(t, "clauses", func(x *api.Code) { x.Preds[1].Clauses = list })
	}
	for _, list := range [][]int{{0}, {1}, {5}, {-1}} {
		wantSpoilt(t, "clauses", func(x *api.Code) { x.Preds[2].Clauses = list })
	}
	wantSpoilt(t, "turned", func(x *api.Code) {
		x.Preds[0].Clauses, x.Preds[3].Clauses = x.Preds[3].Clauses, x.Preds[0].Clauses
	})
}

// P17.1: codes that aren't good by a rule: its predicate, its goals, its roots.
func TestBadRules(t *testing.T) {
	for at := range 5 {
		for _, number := range []int{-1, 4, math.MinInt, math.MaxInt} {
			wantSpoilt(t, "rule", func(x *api.Code) { x.Rules[at].Pred = number })
		}
		for _, s := range []api.Step{{}, {Pred: -1}, {Kind: 4, Pred: -1}, {Kind: -1, Pred: -1}, {Kind: call + 256, Pred: 1},
			{Kind: call, Pred: -1}, {Kind: call, Pred: 4}, {Kind: call, Pred: math.MaxInt}, {Kind: call, Pred: math.MinInt},
			{Kind: eq}, {Kind: eq, Pred: 1}, {Kind: eq, Pred: -2}, {Kind: dif}, {Kind: dif, Pred: 2}, {Kind: dif, Pred: -2}} {
			for roots := range 3 {
				wantSpoilt(t, "goal", func(x *api.Code) {
					r := &x.Rules[at]
					r.Goals = append(r.Goals, s)
					r.Graph.Roots = append(r.Graph.Roots, make([]int, roots)...)
				})
			}
		}
		wantSpoilt(t, "many goals", func(x *api.Code) {
			for len(x.Rules[at].Goals) <= mostGoals {
				x.Rules[at].Goals = append(x.Rules[at].Goals, api.Step{Kind: call, Pred: 1})
			}
		})
		wantSpoilt(t, "a root more", func(x *api.Code) { x.Rules[at].Graph.Roots = append(x.Rules[at].Graph.Roots, 0) })
		wantSpoilt(t, "two roots more", func(x *api.Code) { x.Rules[at].Graph.Roots = append(x.Rules[at].Graph.Roots, 0, 0) })
	}
	for _, at := range []int{0, 2, 3, 4} {
		wantSpoilt(t, "a root less", func(x *api.Code) { x.Rules[at].Graph.Roots = x.Rules[at].Graph.Roots[1:] })
	}
	for _, kind := range []int{eq, dif} {
		for roots := range 5 {
			x := api.Code{Preds: []api.Pred{{Name: "p"}}}
			addRule(&x, 0, []api.Step{{Kind: kind, Pred: -1}})
			x.Rules[0].Graph.Roots = make([]int, roots)
			if roots == 2 {
				want(t, x, []int{0}, []int{0}, fine)
			} else {
				wantNotGood(t, x)
			}
		}
	}
	wantNotGood(t, api.Code{Rules: []api.Rule{{}}})
	wantNotGood(t, api.Code{Rules: []api.Rule{{Pred: -1}}})
}

// P17.1: codes that aren't good by a rule's graph.
func TestBadGraphs(t *testing.T) {
	for at := range 5 {
		for _, m := range []api.Node{{}, {Kind: 5}, {Kind: kVar, Name: "X"}, {Kind: kVar, Num: 1}, {Kind: kVar, Args: []int{0}}, {Kind: kAtom}, {Kind: kAtom, Name: "a b"}, {Kind: kAtom, Name: "a", Num: 1}, {Kind: kAtom, Name: "a", Args: []int{0}},
			{Kind: kInt, Name: "1"}, {Kind: kInt, Num: 1<<50 + 1}, {Kind: kInt, Num: -1<<50 - 1}, {Kind: kInt, Args: []int{0}}, {Kind: kComp, Name: "f"}, {Kind: kComp, Name: "f", Args: []int{2}}, {Kind: kComp, Name: "f", Args: []int{0, -1}}, {Kind: kComp, Args: []int{0}}, {Kind: kComp, Name: "f", Num: 1, Args: []int{0}}, {Kind: kComp, Name: "f", Args: make([]int, 9)}} {
			wantSpoilt(t, "node", func(x *api.Code) { x.Rules[at].Graph.Nodes = append(x.Rules[at].Graph.Nodes, m) })
		}
		for _, root := range []int{-1, 1, math.MinInt, math.MaxInt} {
			if at == 1 {
				break
			}
			wantSpoilt(t, "root", func(x *api.Code) { x.Rules[at].Graph.Roots[0] = root })
		}
		for count := mostNodes - 1; count <= mostNodes+1; count++ {
			fill := func(x *api.Code) {
				for len(x.Rules[at].Graph.Nodes) < count {
					x.Rules[at].Graph.Nodes = append(x.Rules[at].Graph.Nodes, api.Node{Kind: kVar})
				}
			}
			if count > mostNodes {
				wantSpoilt(t, "nodes", fill)
				continue
			}
			x := sample(false)
			fill(&x)
			want(t, x, []int{0, 0, 2, 3}, []int{1, 1, 0, 2}, 0)
		}
	}
	want(t, api.Code{Preds: []api.Pred{{Name: "p", Clauses: []int{0}}}, Rules: []api.Rule{{}}}, []int{0}, []int{0}, fine)
}

// P17.1: as many predicates and rules as a code may have, and more.
func TestLimits(t *testing.T) {
	for _, more := range []int{1, 2, 64, 100000} {
		x := make(net, mostPreds+more).code(0)
		wantNotGood(t, x)
		x = net{{1}, {0}}.code(0)
		for len(x.Rules) < mostClauses {
			addRule(&x, len(x.Rules)%2, calls(1))
		}
		want(t, x, []int{0, 0}, []int{0, 0}, 0)
		for range more {
			addRule(&x, len(x.Rules)%2, calls(1))
		}
		wantNotGood(t, x)
	}
	n := make(net, mostPreds+1)
	for p := range n {
		n[p] = []int{(p + 1) % len(n)}
	}
	wantNotGood(t, n.code(3))
	n = n[:mostPreds]
	n[mostPreds-1] = []int{0}
	want(t, n.code(3), same(mostPreds, 0), same(mostPreds, 0), 0)
}

// P17.1: the fault is at the first predicate in whose circle both kinds stand, be that one inductive or coinductive.
func TestFirstOfTheCircle(t *testing.T) {
	wantSource(t, "co q/0. co p/0. p :- r. r :- p.", []int{0, 1, 1}, []int{0, 0, 0}, 1)
	wantSource(t, "co q/0. p :- q. q :- p.", []int{0, 0}, []int{0, 0}, 0)
	x := net{{1}, {0}}.code(0)
	want(t, x, []int{0, 0}, []int{0, 0}, 0)
	x = net{{1}, {0}}.code(1)
	want(t, x, []int{0, 0}, []int{0, 0}, 0)
	// The circle of 1, 3 and 5, with predicates of both kinds, in circles of their own, ahead, between and behind.
	for kinds := range 8 {
		var co []int
		for i, p := range []int{1, 3, 5} {
			if kinds>>i&1 == 1 {
				co = append(co, p)
			}
		}
		at := 1
		if kinds == 0 || kinds == 7 {
			at = fine
		}
		n := net{{0}, {3}, {4}, {2, 5}, {4, 6}, {1, 0}, {}}
		want(t, n.code(append(co, 0, 4)...), []int{0, 1, 2, 1, 4, 1, 6}, []int{0, 3, 2, 3, 1, 3, 0}, at)
		want(t, n.code(append(co, 2, 6)...), []int{0, 1, 2, 1, 4, 1, 6}, []int{0, 3, 2, 3, 1, 3, 0}, at)
	}
}

// P17.1: of several circles in which both kinds stand the one with the least number counts, wherever they lie, and whichever of their predicates are coinductive.
func TestSeveralMixedCircles(t *testing.T) {
	for first := range 3 {
		for second := first + 1; second < 4; second++ {
			for kinds := range 4 {
				// Circles of two: 0 and 7, 1 and 6, 2 and 5, 3 and 4, of which each calls the next.
				up := net{{7}, {6}, {5}, {4}, {3}, {2, 4}, {1, 5}, {0, 6}}
				down := net{{7}, {6, 7}, {5, 6}, {4, 5}, {3}, {2}, {1}, {0}}
				co := []int{first, second}
				for i := range co {
					if kinds>>i&1 == 1 {
						co[i] = 7 - co[i]
					}
				}
				circles := []int{0, 1, 2, 3, 3, 2, 1, 0}
				want(t, up.code(co...), circles, []int{3, 2, 1, 0, 0, 1, 2, 3}, first)
				want(t, down.code(co...), circles, []int{0, 1, 2, 3, 3, 2, 1, 0}, first)
				rest := append(upTo(first), upTo(8)[8-first:]...)
				wantCheck(t, up.code(append(rest, co...)...), first)
			}
		}
	}
}

// P17.1: both kinds in circles above and below one another are fine.
func TestMixedLevels(t *testing.T) {
	x := net{{1}, {0, 2}, {3}, {2, 4}, {5}, {4}}.code(2, 3)
	want(t, x, []int{0, 0, 2, 2, 4, 4}, []int{2, 2, 1, 1, 0, 0}, fine)
	x = net{{1}, {0, 2}, {3}, {2, 4}, {5}, {4}}.code(0, 1, 4, 5)
	want(t, x, []int{0, 0, 2, 2, 4, 4}, []int{2, 2, 1, 1, 0, 0}, fine)
}

// P17.1: the fault's name is written as a predicate's name: quoted where it must be.
func TestNames(t *testing.T) {
	for name, written := range map[string]string{"p": "p/", "aB_9": "aB_9/", "X": "'X'/", "_": "'_'/", "[]": "'[]'/", ".": "'.'/", "it's": `'it\'s'/`, `\`: `'\\'/`, "9": "'9'/", "a/1": "'a/1'/", "+": "'+'/", "dif": "dif/", "where": "where/", "co": "co/", strings.Repeat("~", 32): "'" + strings.Repeat("~", 32) + "'/", strings.Repeat("x", 32): strings.Repeat("x", 32) + "/"} {
		for arity := range 9 {
			if name == "dif" && arity == 2 {
				continue
			}
			for _, co := range []bool{true, false} {
				x := api.Code{Preds: []api.Pred{{Name: "first"}, {Name: name, Arity: arity, Co: co}, {Name: "other", Arity: 3, Co: !co}}}
				addRule(&x, 0, calls(1))
				addRule(&x, 1, calls(2))
				addRule(&x, 2, calls(1))
				if err := strata.Check(x); !isFault(err, errStrata, 1, written+strconv.Itoa(arity)) {
					t.Fatal(err)
				}
				wantNet(t, x, []int{0, 1, 1}, []int{1, 0, 0})
			}
		}
	}
}

// P1: codes of anything end, without a panic; those that aren't good are refused.
func TestWildCodes(t *testing.T) {
	good := 0
	for seed := range 20000 {
		d := dice(seed)
		x := d.code(d.net(1 + d.below(4)))
		for range d.below(3) {
			d.spoil(&x)
		}
		if code.Check(x) != nil {
			wantNotGood(t, x)
			continue
		}
		good++
		n := netOf(x)
		want(t, x, n.circles(), n.levels(), mixed(x.Preds, n.circles()))
	}
	if good < 5000 || good > 15000 {
		t.Error(good)
	}
}

// spoil changes one thing in a code, to what may be or not.
func (d *dice) spoil(x *api.Code) {
	number := []int{-1, 0, 1, 2, 3, 4, 8, 9, math.MaxInt, math.MinInt}[d.below(10)]
	p := &x.Preds[d.below(len(x.Preds))]
	switch d.below(8) {
	case 0:
		p.Arity = number
	case 1:
		p.Name = []string{"", "dif", "p0", "a b"}[d.below(4)]
	case 2:
		p.Clauses = append(p.Clauses, number)
	case 3:
		p.Co = !p.Co
	}
	if len(x.Rules) == 0 {
		return
	}
	r := &x.Rules[d.below(len(x.Rules))]
	switch d.below(8) {
	case 0:
		r.Pred = number
	case 1:
		r.Goals = append(r.Goals, api.Step{Kind: d.below(5), Pred: number})
	case 2:
		if len(r.Goals) > 0 {
			r.Goals[d.below(len(r.Goals))].Pred = number
		}
	case 3:
		r.Graph.Roots = append(r.Graph.Roots, number)
	case 4:
		r.Graph.Nodes = append(r.Graph.Nodes, api.Node{Kind: d.below(6), Num: number})
	}
}
