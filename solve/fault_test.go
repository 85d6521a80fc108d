package solve_test

import (
	"errors"
	"math"
	"slices"
	"strings"
	"testing"

	"tendril/api"
	"tendril/solve"
)

// The numbers of the errors are spelt here, apart from the program.
const (
	errGraph = 40
	errNodes = 41
	errRoots = 42
	errRoot  = 43
	errPair  = 100
)

// isFault tells whether an error is a fault itself of this code and place, without a name and a cause.
func isFault(err error, code, at int) bool {
	f, ok := err.(*api.Fault)
	return ok && f != nil && f.Code == api.Errno(code) && f.At == at && f.Name == "" && f.Cause == nil && errors.Is(err, api.Errno(code))
}

// wantPairs stops the test unless Solve and Verdict refuse a graph with pairs by this fault, with nothing beside it.
func wantPairs(t *testing.T, g api.Graph, pairs [][2]int, code, at int) {
	t.Helper()
	h, ok, err := solve.Solve(g, pairs)
	if !isFault(err, code, at) || ok || len(h.Nodes)+len(h.Roots) > 0 {
		t.Fatalf("%s, %v: Solve: %s, %v, %v, want %d at %d", short(telling(g)), pairs, short(telling(h)), ok, err, code, at)
	}
	verdict, err := solve.Verdict(g, pairs)
	if !isFault(err, code, at) || verdict.Kind != 0 || len(verdict.Vars) > 0 {
		t.Fatalf("%s, %v: Verdict: %v, %v, want %d at %d", short(telling(g)), pairs, verdict, err, code, at)
	}
}

// wantBad stops the test unless all calls refuse a graph by this fault, whatever else is wrong or right.
func wantBad(t *testing.T, g api.Graph, code, at int) {
	t.Helper()
	for _, pairs := range []string{"", "0-0", "-1-0", "0-1 1-0", "0-9", "9-9 0-0"} {
		wantPairs(t, g, badPairs(pairs), code, at)
	}
	for _, other := range []api.Graph{{}, made("X", "0"), made("f(0)", "0 0 0")} {
		wantRefused(t, g, other, code, at)
		wantRefused(t, other, g, code, at)
	}
	wantRefused(t, g, g, code, at)
	// p's fault is ahead of t's.
	for _, other := range []struct {
		g        api.Graph
		code, at int
	}{{made("X a", "0 1 2"), errRoot, 2}, {made("X a f(0,3)", "7"), errGraph, 2}, {of(make([]api.Node, most+9)), errNodes, most + 9}, {of(nil, make([]int, most+7)...), errRoots, most + 7}} {
		wantRefused(t, g, other.g, code, at)
		wantRefused(t, other.g, g, other.code, other.at)
	}
}

// badPairs is pairs from a text in which -1 may be the first of the two.
func badPairs(s string) [][2]int {
	if s == "-1-0" {
		return [][2]int{{-1, 0}}
	}
	return paired(s)
}

// wantRefused stops the test unless Instance refuses the two by this fault.
func wantRefused(t *testing.T, p, g api.Graph, code, at int) {
	t.Helper()
	if is, err := solve.Instance(p, g); is || !isFault(err, code, at) {
		t.Fatalf("%s, %s: Instance: %v, %v, want %d at %d", short(telling(p)), short(telling(g)), is, err, code, at)
	}
}

// badNodes is nodes that aren't good in a graph of five, in each of the ways that chapter 4 names.
func badNodes() map[string]api.Node {
	out := map[string]api.Node{
		"nothing": {}, "no kind with a name": {Name: "a"}, "the kind -1": {Kind: -1}, "the kind 5": {Kind: 5, Name: "f", Args: []int{0}}, "the kind 257": {Kind: 257}, "the kind 1 << 32 + 4": {Kind: 1<<32 + 4, Name: "f", Args: []int{0}},
		"a variable with a name": {Kind: kVar, Name: "X"}, "a variable with a number": {Kind: kVar, Num: 1}, "a variable with arguments": {Kind: kVar, Args: []int{0}},
		"an atom with a number": {Kind: kAtom, Name: "a", Num: 1}, "an atom with arguments": {Kind: kAtom, Name: "a", Args: []int{0}},
		"an integer with a name": {Kind: kInt, Name: "1", Num: 1}, "an integer with arguments": {Kind: kInt, Num: 1, Args: []int{0}},
		"an integer too great": n(great + 1), "an integer too small": n(-great - 1), "the greatest int": n(math.MaxInt), "the least int": n(math.MinInt),
		"a compound with a number": {Kind: kComp, Name: "f", Num: -1, Args: []int{0}}, "a compound without arguments": c("f"), "a compound with no arguments": {Kind: kComp, Name: "f", Args: []int{}},
		"too many arguments": c("f", make([]int, widest+1)...), "an argument -1": c("f", 0, -1), "an argument 5": c("f", 4, 5), "the greatest argument": c("f", math.MaxInt), "the least argument": c(".", 0, math.MinInt),
	}
	for _, name := range []string{"", " ", "a b", "a\n", "\x00", "\x7f", "é", strings.Repeat("a", longest+1)} {
		out["the atom "+name] = a(name)
		out["the compound "+name] = c(name, 0)
	}
	return out
}

// P10.1, P10.3, R10: nodes that aren't good, at each place, be they met from the roots or not.
func TestBadNodes(t *testing.T) {
	for what, bad := range badNodes() {
		t.Run(what, func(t *testing.T) {
			for at := range 5 {
				for _, roots := range [][]int{nil, {0}, {at}, {4, 3, 2, 1, 0}, {9}} {
					g := made("f(1,2) X a g(0) 7", "")
					g.Roots, g.Nodes[at] = roots, bad
					wantBad(t, g, errGraph, at)
					for also := at + 1; also < 5; also++ {
						g.Nodes[also] = api.Node{}
						wantBad(t, g, errGraph, at)
					}
				}
			}
		})
	}
}

// P10.1, P10.3, R10: roots that are no node's number.
func TestBadRoots(t *testing.T) {
	for _, bad := range []int{-1, 2, 3, most, math.MaxInt, math.MinInt} {
		for at := range 4 {
			g := made("f(1) X", "0 1 0 1")
			g.Roots[at] = bad
			wantBad(t, g, errRoot, at)
			g.Roots[3] = bad
			wantBad(t, g, errRoot, at)
			g.Nodes[1].Num = 1
			wantBad(t, g, errGraph, 1)
		}
	}
	wantBad(t, of(nil, 0), errRoot, 0)
	wantBad(t, of(nil, -1), errRoot, 0)
}

// P10.1, P10.3, R10: more nodes or more roots than may be, whatever else is wrong.
func TestTooMany(t *testing.T) {
	for _, count := range []int{most + 1, most + 2, 2 * most} {
		g := of(make([]api.Node, count), -1)
		wantBad(t, g, errNodes, count)
		g.Roots = make([]int, 3*most)
		wantBad(t, g, errNodes, count)
		for i := range g.Nodes {
			g.Nodes[i] = v()
		}
		g.Roots = g.Roots[:1]
		wantBad(t, g, errNodes, count)
		wantBad(t, of(nodes(v()), make([]int, count)...), errRoots, count)
		wantBad(t, of(nodes(api.Node{}), make([]int, count)...), errRoots, count)
		wantBad(t, of(nil, make([]int, count)...), errRoots, count)
	}
}

// P10.1: pairs of which one of the two is no node, at each place; the first of them is told, ahead of whether there is a solution.
func TestBadPairs(t *testing.T) {
	g := made("f(1) X a b", "0")
	rows := [][][2]int{paired("0-0 1-1 2-2 3-3"), paired("0-1 0-1 1-0 1-0"), paired("2-3 0-2 3-2 0-3")}
	for _, bad := range []int{-1, -2, 4, 5, most - 1, most, math.MaxInt, math.MinInt} {
		for _, row := range rows {
			for at := range row {
				for which := range 2 {
					pairs := slices.Clone(row)
					pairs[at][which] = bad
					wantPairs(t, g, pairs, errPair, at)
					pairs[at][1-which] = bad
					wantPairs(t, g, pairs, errPair, at)
					for also := at + 1; also < len(pairs); also++ {
						pairs[also] = [2]int{0, -7}
						wantPairs(t, g, pairs, errPair, at)
					}
				}
			}
		}
	}
	for _, pair := range [][2]int{{0, 0}, {-1, -1}, {0, 1}} {
		wantPairs(t, api.Graph{}, [][2]int{pair}, errPair, 0)
	}
	wantPairs(t, made("X", "0"), [][2]int{{0, 0}, {0, 1}}, errPair, 1)
	wantPairs(t, made("X", "0"), [][2]int{{0, 0}, {1, 0}}, errPair, 1)
}

// P10.1: the last node that is one, and the first number that is none, of the greatest graph; a pair far behind.
func TestLastNode(t *testing.T) {
	g := of(slices.Repeat(nodes(v()), most), 0, most-1)
	wantVerdict(t, g, [][2]int{{0, most - 1}}, open, []int{0, most - 1})
	wantPairs(t, g, [][2]int{{0, most}}, errPair, 0)
	wantPairs(t, g, [][2]int{{most, 0}}, errPair, 0)
	far := append(make([][2]int, 100000), [2]int{most, most})
	wantPairs(t, g, far, errPair, 100000)
	wantVerdict(t, g, far[:100000], same, nil)
}

// P10.1: the greatest of all that a good graph may hold is taken.
func TestGreatestThings(t *testing.T) {
	name := strings.Repeat("~", longest)
	g := of(nodes(c(name, 1, 2, 3, 4, 5, 6, 7, 8), n(great), n(-great), a(name), v(), v(), v(), v(), v(), c(name, 4, 5, 6, 1, 2, 3, 10, 10), v()), 0)
	want := of(nodes(c(name, 1, 2, 3, 1, 2, 3, 4, 4), n(great), n(-great), a(name), v()), 0)
	wantSolve(t, g, paired("0-9"), want, true)
	wantVerdict(t, g, paired("0-9"), open, []int{4, 5, 6, 7, 8, 10})
	wantVerdict(t, g, paired("1-2"), apart, nil)
	wantVerdict(t, g, paired("3-0"), apart, nil)
}
