package solve_test

import (
	"slices"
	"testing"

	"tendril/api"
	"tendril/bisim"
	"tendril/graph"
	"tendril/solve"
)

// census counts verdicts.
type census [4]int

// wantBoth stops the test unless Solve and Verdict answer as the oracle does, and counts the verdict.
func (count *census) wantBoth(t *testing.T, g api.Graph, pairs [][2]int) {
	t.Helper()
	want, ok, verdict := solved(g, pairs)
	h, done, err := solve.Solve(g, pairs)
	if err != nil || done != ok || !graph.Same(h, want) {
		t.Fatalf("%s, %v: Solve:\n%s, %v, %v, want\n%s, %v", telling(g), pairs, telling(h), done, err, telling(want), ok)
	}
	got, err := solve.Verdict(g, pairs)
	if err != nil || got.Kind != verdict.Kind || !slices.Equal(got.Vars, verdict.Vars) {
		t.Fatalf("%s, %v: Verdict: %v, %v, want %v", telling(g), pairs, got, err, verdict)
	}
	count[got.Kind]++
}

// P10.1, P10.2: scattered graphs and pairs, in several orders.
func TestManyPairs(t *testing.T) {
	var count census
	for seed := range 20000 {
		d := dice(seed)
		g := d.graph(14)
		pairs := d.pairs(len(g.Nodes))
		count.wantBoth(t, g, pairs)
		want, ok, _ := solved(g, pairs)
		wantSolve(t, g, d.shuffled(pairs), want, ok)
		// What the nodes' numbers are makes no difference, but for the numbers that are told.
		h, to := d.moved(g)
		var also [][2]int
		for _, pair := range pairs {
			also = append(also, [2]int{to[pair[0]], to[pair[1]]})
		}
		count.wantBoth(t, h, also)
		wantSolve(t, h, d.shuffled(also), want, ok)
	}
	if count[apart] < 4000 || count[same] < 4000 || count[open] < 4000 {
		t.Errorf("%d apart, %d the same, %d open", count[apart], count[same], count[open])
	}
}

// P10.1: all graphs of three nodes of some kinds with all pairs.
func TestAllSmall(t *testing.T) {
	kinds := nodes(v(), a("a"), a("b"), n(1))
	for i := range 3 {
		kinds = append(kinds, c("f", i), c("a", i))
		for j := range 3 {
			kinds = append(kinds, c("f", i, j))
		}
	}
	every := paired("0-1 2-0 1-2")
	var count census
	for _, x := range kinds {
		for _, y := range kinds {
			for _, z := range kinds {
				for some := range 8 {
					var pairs [][2]int
					for i, pair := range every {
						if some>>i&1 == 1 {
							pairs = append(pairs, pair)
						}
					}
					count.wantBoth(t, of(nodes(x, y, z), 2, 0, 1), pairs)
				}
			}
		}
	}
	if count[apart] < 10000 || count[same] < 10000 || count[open] < 3000 {
		t.Errorf("%d apart, %d the same, %d open", count[apart], count[same], count[open])
	}
}

// pool is trees that are given to variables: atoms, compounds, circles, and variables.
func pool() []api.Node {
	return made("a b f(0) f(3) f(0,5) f(5,0) P Q f(6) f(6,7) f(10,10) 1", "").Nodes
}

// P10.1, P10.2, by the words of the chapter: what Solve gives the variables is a solution; and of all that they may be given from a row of trees, that is a solution which is an instance of it, and nothing else. What the roots become by a solution is an instance of what Solve makes of them.
func TestSolutions(t *testing.T) {
	trees := pool()
	solutions, others, none := 0, 0, 0
	for seed := range 3000 {
		d := dice(seed)
		g := d.graph(6)
		vars := variables(g.Nodes)
		if len(vars) > 2 {
			continue
		}
		pairs := d.pairs(len(g.Nodes))
		whole := of(g.Nodes, vars...)
		most, ok, err := solve.Solve(whole, pairs)
		became, ok2, err2 := solve.Solve(g, pairs)
		if err != nil || err2 != nil || ok != ok2 {
			t.Fatalf("%s, %v: %v, %v, %v, %v", telling(g), pairs, ok, ok2, err, err2)
		}
		if ok {
			h := with(g, vars, most.Roots, most.Nodes)
			if !allAlike(h.Nodes, pairsWith(g, pairs, vars, most.Roots)) || !graph.Same(leastOf(h), became) {
				t.Fatalf("%s, %v: %s isn't a solution, or doesn't make %s", telling(g), pairs, telling(most), telling(became))
			}
		}
		each(len(vars), len(trees), func(given []int) bool {
			h := with(whole, vars, given, trees)
			is := allAlike(h.Nodes, pairsWith(g, pairs, vars, given))
			if !ok {
				none++
				if is {
					t.Fatalf("%s, %v: there is a solution: %s", telling(g), pairs, telling(h))
				}
				return true
			}
			wantInstance(t, most, h, is)
			if is {
				solutions++
				wantInstance(t, became, with(g, vars, given, trees), true)
			} else {
				others++
			}
			return true
		})
	}
	if solutions < 10000 || others < 10000 || none < 10000 {
		t.Errorf("%d solutions, %d others, %d where there are none", solutions, others, none)
	}
}

// P10.1: on what a verdict hangs is told by what Solve makes of the variables.
func TestHanging(t *testing.T) {
	for seed := range 10000 {
		d := dice(seed)
		g := d.graph(20)
		pairs := d.pairs(len(g.Nodes))
		vars := variables(g.Nodes)
		h, ok, err := solve.Solve(of(g.Nodes, vars...), pairs)
		got, err2 := solve.Verdict(g, pairs)
		if err != nil || err2 != nil || ok != (got.Kind != apart) {
			t.Fatalf("%s, %v: %v, %v, %v, %v", telling(g), pairs, ok, got, err, err2)
		}
		var hang []int
		for k, r := range h.Roots {
			again := slices.Index(h.Roots, r) != k || slices.Contains(h.Roots[k+1:], r)
			if h.Nodes[r].Kind != kVar || again {
				hang = append(hang, vars[k])
			}
		}
		if !slices.Equal(hang, got.Vars) || (got.Kind == open) != (len(hang) > 0) {
			t.Fatalf("%s, %v: %v, want %v", telling(g), pairs, got, hang)
		}
	}
}

// P10.2: to solve what is solved makes no difference, and pair by pair is as all at once.
func TestOneByOne(t *testing.T) {
	done := 0
	for seed := range 10000 {
		d := dice(seed)
		g := d.graph(14)
		pairs := d.pairs(len(g.Nodes))
		want, ok, err := solve.Solve(g, pairs)
		if err != nil {
			t.Fatal(err)
		}
		// All nodes are roots, so that each is found behind each step.
		h := of(g.Nodes)
		for i := range g.Nodes {
			h.Roots = append(h.Roots, i)
		}
		can := true
		for _, pair := range d.shuffled(pairs) {
			if can {
				h, can, err = solve.Solve(h, [][2]int{{h.Roots[pair[0]], h.Roots[pair[1]]}})
			}
			if err != nil {
				t.Fatal(err)
			}
		}
		if can != ok {
			t.Fatalf("%s, %v: %v, one by one %v", telling(g), pairs, ok, can)
		}
		if !ok {
			continue
		}
		done++
		var roots []int
		for _, r := range g.Roots {
			roots = append(roots, h.Roots[r])
		}
		if got := leastOf(of(h.Nodes, roots...)); !graph.Same(got, want) {
			t.Fatalf("%s, %v: one by one %s, want %s", telling(g), pairs, telling(got), telling(want))
		}
		wantSolve(t, h, paired("0-0"), leastOf(h), true)
	}
	if done < 3000 {
		t.Errorf("%d have a solution", done)
	}
}

// P10.3: scattered graphs, each with one that is less, and with another: small ones by the words of the chapter, greater ones by going through both.
func TestManyInstances(t *testing.T) {
	yes, no := 0, 0
	for seed := range 40000 {
		d := dice(seed)
		size := 5
		if seed%2 == 0 {
			size = 30
		}
		g := d.graph(size)
		for i := range g.Nodes {
			if d.below(3) > 0 {
				g.Nodes[i] = c("f", d.below(len(g.Nodes)), d.below(len(g.Nodes)))
			}
			g.Roots = append(g.Roots, i)
		}
		p := d.less(g)
		if d.below(3) == 0 {
			p = leastOf(p)
		}
		if d.below(3) == 0 {
			p, _ = d.moved(p)
		}
		want := goesInto(p, g)
		if size == 5 && len(variables(p.Nodes)) < 4 && want != isInstance(p, g) {
			t.Fatalf("%s, an instance of %s: both %v and not", telling(g), telling(p), want)
		}
		wantInstance(t, p, g, want)
		wantInstance(t, leastOf(p), leastOf(g), want)
		wantInstance(t, g, p, goesInto(g, p))
		wantInstance(t, g, g, true)
		if want {
			yes++
		} else {
			no++
		}
	}
	if yes < 8000 || no < 8000 {
		t.Errorf("%d instances, %d none", yes, no)
	}
}

// smallGraphs is all graphs of two nodes of some kinds, with one and with two roots.
func smallGraphs() []api.Graph {
	kinds := nodes(v(), a("a"), c("f", 0), c("f", 1), c("g", 0, 0), c("g", 0, 1), c("g", 1, 0), c("g", 1, 1))
	var out []api.Graph
	for _, x := range kinds {
		for _, y := range kinds {
			out = append(out, of(nodes(x, y), 0), of(nodes(x, y), 0, 1))
		}
	}
	return out
}

// P10.3: all small graphs with one another, by the words of the chapter: and each is an instance of itself, an instance of an instance is one, and two that are instances of one another are the same up to their variables.
func TestSmallInstances(t *testing.T) {
	all := smallGraphs()
	is := make([][]bool, len(all))
	count := 0
	for i, p := range all {
		is[i] = make([]bool, len(all))
		for k, g := range all {
			is[i][k] = isInstance(p, g)
			wantInstance(t, p, g, is[i][k])
			if is[i][k] {
				count++
			}
		}
	}
	for i := range all {
		for k := range all {
			if (is[i][k] && is[k][i]) != bisim.Alike(all[i], all[k]) || !is[i][i] {
				t.Fatalf("%s and %s: %v and %v", telling(all[i]), telling(all[k]), is[i][k], is[k][i])
			}
			for j := range all {
				if is[i][k] && is[k][j] && !is[i][j] {
					t.Fatalf("%s, %s, %s", telling(all[i]), telling(all[k]), telling(all[j]))
				}
			}
		}
	}
	if count < 1500 {
		t.Errorf("%d instances", count)
	}
}

// P10.3: graphs of three nodes, as patterns of all graphs of two.
func TestSmallPatterns(t *testing.T) {
	kinds := nodes(v(), a("a"))
	for i := range 3 {
		kinds = append(kinds, c("f", i))
		for j := range 3 {
			kinds = append(kinds, c("g", i, j))
		}
	}
	all, count := smallGraphs(), 0
	for _, x := range kinds {
		for _, y := range kinds {
			for _, z := range kinds {
				p := of(nodes(x, y, z), 0)
				for _, g := range all {
					if len(g.Roots) == 2 {
						continue
					}
					want := goesInto(p, g)
					wantInstance(t, p, g, want)
					if want {
						count++
					}
				}
			}
		}
	}
	if count < 10000 {
		t.Errorf("%d instances", count)
	}
}

// P10.1, P10.3: great graphs of scattered nodes and many pairs end, and what is answered holds.
func TestGreat(t *testing.T) {
	done := 0
	for seed := range 40 {
		d := dice(seed)
		g := of(nil)
		count := most - d.below(3)
		for i := range count {
			m := d.node(count)
			if d.below(2) == 0 {
				m = v()
			}
			if m.Kind == kAtom || m.Kind == kInt || len(m.Args) > 0 && seed%2 == 0 {
				m = c("f", (i+1)%count, d.below(count))
			}
			g.Nodes = append(g.Nodes, m)
		}
		for i := range most {
			g.Roots = append(g.Roots, i%count)
		}
		var pairs [][2]int
		for range 1 + d.below(2*count) {
			pairs = append(pairs, [2]int{d.below(count), d.below(count)})
		}
		h, ok, err := solve.Solve(g, pairs)
		if err != nil {
			t.Fatal(err)
		}
		verdict, err := solve.Verdict(g, pairs)
		if err != nil || ok != (verdict.Kind == open) || !slices.IsSorted(verdict.Vars) {
			t.Fatalf("seed %d: %v, %d, %v", seed, ok, verdict.Kind, err)
		}
		if !ok {
			continue
		}
		done++
		wantInstance(t, g, h, true)
		wantInstance(t, h, g, false)
		for _, pair := range pairs {
			// Each node is the root of its number.
			if h.Roots[pair[0]] != h.Roots[pair[1]] {
				t.Fatalf("seed %d: the pair %v isn't one", seed, pair)
			}
		}
		wantSolve(t, g, d.shuffled(pairs), h, true)
	}
	if done < 10 {
		t.Errorf("%d have a solution", done)
	}
}
