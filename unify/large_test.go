package unify_test

import (
	"slices"
	"strconv"
	"testing"

	"tendril/api"
	"tendril/cells"
	"tendril/graph"
	"tendril/solve"
	"tendril/unify"
)

// wantLarge makes two cells one, either way round, in heaps that a function makes, and stops the test unless the answer, and what some cells hold, are what layer 10 says; with as few writes as P12.2 says.
func wantLarge(t *testing.T, what string, build func() *cells.Heap, pair [2]int, can bool, places ...int) {
	t.Helper()
	all := append([]int{pair[0], pair[1]}, places...)
	g, err := build().Get(all...)
	done(t, err)
	want, is, err := solve.Solve(g, [][2]int{{g.Roots[0], g.Roots[1]}})
	if err != nil || is != can {
		t.Fatalf("%s: layer 10 says %v, %v", what, is, err)
	}
	for _, pairs := range [][][2]int{{pair}, {{pair[1], pair[0]}}} {
		for name, call := range ways(1) {
			h := build()
			wantCall(t, what+" by "+name, h, call, pairs, can)
			if got, err := h.Get(all...); can && (err != nil || !graph.Same(got, want)) {
				t.Fatalf("%s by %s: the cells hold %s, %v", what, name, telling(got), err)
			}
		}
	}
}

// doubling is a chain of compounds both of whose arguments are the next one, with something at its end: laid out it has more than 2^count parts.
func doubling(count int, end api.Node) api.Graph {
	g := of(nil, 0, count)
	for i := range count {
		g.Nodes = append(g.Nodes, c("f", i+1, i+1))
	}
	g.Nodes = append(g.Nodes, end)
	return g
}

// P12.1, P12.2: chains whose terms laid out have 2^n parts.
func TestDoubling(t *testing.T) {
	const count = 2000
	for _, x := range []struct {
		left, right api.Node
		lengths     [2]int
		can         bool
	}{
		{a("a"), a("a"), [2]int{count, count}, true},
		{a("a"), a("b"), [2]int{count, count}, false},
		{v(), a("b"), [2]int{count, count}, true},
		{v(), v(), [2]int{count, count}, true},
		{a("a"), n(7), [2]int{count, count}, false},
		{a("a"), a("a"), [2]int{count, count - 1}, false},
		{a("a"), v(), [2]int{count, count - 100}, true},
		{a("a"), v(), [2]int{count - 100, count}, false},
		{c("f", 0, 0), v(), [2]int{count, count - 7}, true},
		{c("f", 0, 0), c("f", 0, 0), [2]int{count, count - 7}, true},
		{c("f", 0, 0), c("f", 0, 1), [2]int{count, count - 7}, true},
		{c("f", 0, 0), a("a"), [2]int{count, count - 7}, false},
	} {
		var pair [2]int
		build := func() *cells.Heap {
			h := heap(t, manyWords)
			left := put(t, h, doubling(x.lengths[0], x.left))
			h.Point()
			right := put(t, h, doubling(x.lengths[1], x.right))
			pair = [2]int{left[0], right[0]}
			return h
		}
		build()
		wantLarge(t, telling(of(nodes(x.left, x.right))), build, pair, x.can, pair[0]+1, pair[1]+1)
	}
	// Both in one graph, crosswise: each node of the one is held by the other.
	g := of(nil, 0, 1)
	for i := 0; i < 2*count-2; i += 2 {
		g.Nodes = append(g.Nodes, c("f", i+2, i+3), c("f", i+3, i+2))
	}
	g.Nodes = append(g.Nodes, v(), v())
	wantLarge(t, "crosswise", func() *cells.Heap {
		h := heap(t, manyWords)
		put(t, h, g)
		return h
	}, [2]int{0, 1}, true)
}

// P12.1, P12.2: long circles of unlike lengths are one; with one part that is another they aren't.
func TestLongCircles(t *testing.T) {
	for _, x := range []struct {
		p, q, other int
		can         bool
	}{{1999, 2000, -1, true}, {1, 4000, -1, true}, {2048, 1024, -1, true}, {1999, 2000, 1234, false}, {1, 4000, 3999, false}, {1, 1, 0, false}} {
		var pair [2]int
		build := func() *cells.Heap {
			h := heap(t, manyWords)
			pair[0] = put(t, h, circle(x.p, -1))[0]
			h.Point()
			pair[1] = put(t, h, circle(x.q, x.other))[0]
			return h
		}
		build()
		wantLarge(t, strconv.Itoa(x.p)+" and "+strconv.Itoa(x.q), build, pair, x.can)
	}
}

// chain is so many compounds within one another, with something at the end.
func chain(count int, end api.Node) api.Graph {
	g := of(nil, 0)
	for i := range count {
		g.Nodes = append(g.Nodes, c("s", i+1))
	}
	g.Nodes = append(g.Nodes, end)
	return g
}

// P12.1, P12.2, P12.4: terms as deep as a heap can hold; they are put together of pieces, since a graph can't hold them.
func TestDeepest(t *testing.T) {
	pieces := func(h *cells.Heap, end api.Node) int {
		first := put(t, h, chain(most-1, v()))[0]
		last := h.Top() - 1
		for i := 1; i < 3; i++ {
			next := put(t, h, chain(most-1, v()))[0]
			done(t, h.Bind(last, next))
			last = h.Top() - 1
		}
		done(t, h.Bind(last, put(t, h, of(nodes(end), 0))[0]))
		return first
	}
	for _, x := range []struct {
		left, right api.Node
		can         bool
	}{{a("a"), a("a"), true}, {a("a"), a("b"), false}, {a("a"), n(0), false}, {v(), n(0), true}, {v(), v(), true}} {
		h := heap(t, manyWords)
		left := pieces(h, x.left)
		h.Point()
		right := pieces(h, x.right)
		before := h.Dump()
		reach, err := h.Reach(left, right)
		done(t, err)
		writes := h.Writes()
		ok, err := unify.Unify(h, left, right)
		if ok != x.can || err != nil || h.Writes()-writes > reach {
			t.Fatalf("%v, %v: %v, %v, %d writes, %d reachable", x.left, x.right, ok, err, h.Writes()-writes, reach)
		}
		if !ok {
			wantSame(t, "false", h.Dump(), before)
			continue
		}
		writes = h.Writes()
		if ok, err := unify.Unify(h, right, left); !ok || err != nil || h.Writes() != writes {
			t.Fatalf("again: %v, %v, %d", ok, err, h.Writes()-writes)
		}
		one, other := bottom(t, h, left), bottom(t, h, right)
		if one != other || one.deep != 3*(most-1) || one.kind != x.right.Kind || one.name != x.right.Name {
			t.Fatalf("%v, %v", one, other)
		}
	}
}

// spot is what stands at the end of a chain, and how many compounds one goes through.
type spot struct {
	kind, at, num, deep int
	name                string
}

// bottom goes down a chain to its end.
func bottom(t *testing.T, h *cells.Heap, at int) spot {
	t.Helper()
	for deep := 0; ; deep++ {
		x, err := h.Look(at)
		done(t, err)
		if x.Kind != kComp {
			return spot{x.Kind, x.At, x.Num, deep, x.Name}
		}
		at = x.Args[0]
	}
}

// across is how many classes of numbers there are, if each but the last is one with seven times it and three more.
func across(count int) int {
	class := make([]int, count)
	for i := range class {
		class[i] = i
	}
	classes := count
	for i := range count - 1 {
		one, other := class[i], class[(i*7+3)%count]
		if one == other {
			continue
		}
		classes--
		for k := range class {
			if class[k] == other {
				class[k] = one
			}
		}
	}
	return classes
}

// P12.1, P12.2, P12.3: many variables are made one, in rows that lead up and down and across.
func TestManyVariables(t *testing.T) {
	const count = most
	vars := of(slices.Repeat(nodes(v()), count))
	for i := range count {
		vars.Roots = append(vars.Roots, i)
	}
	// The star doesn't come to the last one; what leads across has circles of its own.
	left := map[string]int{"up": 1, "down": 1, "star": 2, "across": across(count)}
	rows := map[string]func(i int) [2]int{
		"up":     func(i int) [2]int { return [2]int{i, i + 1} },
		"down":   func(i int) [2]int { return [2]int{count - 1 - i, count - 2 - i} },
		"across": func(i int) [2]int { return [2]int{i, (i*7 + 3) % count} },
		"star":   func(i int) [2]int { return [2]int{count / 2, i} },
	}
	for name, row := range rows {
		var pairs [][2]int
		for i := range count - 1 {
			pairs = append(pairs, row(i))
		}
		h := heap(t, manyWords)
		all := put(t, h, vars)
		wantCall(t, name, h, unify.All, placed(pairs, all), true)
		other := heap(t, manyWords)
		put(t, other, vars)
		for _, pair := range placed(pairs, all) {
			if ok, err := unify.Unify(other, pair[1], pair[0]); !ok || err != nil {
				t.Fatal(name, ok, err)
			}
		}
		x, err := h.Get(all...)
		done(t, err)
		y, err := other.Get(all...)
		if err != nil || !graph.Same(x, y) || len(x.Nodes) != left[name] {
			t.Fatalf("%s: %d nodes, %d one by one, %v", name, len(x.Nodes), len(y.Nodes), err)
		}
	}
}
