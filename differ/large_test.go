package differ_test

import (
	"slices"
	"testing"

	"tendril/api"
	"tendril/cells"
)

// wantLarge looks at two cells, with and without a point, and stops the test unless the verdict is of a kind, and what layer 10 says.
func wantLarge(t *testing.T, what string, build func() *cells.Heap, pair [2]int, kind int) {
	t.Helper()
	h := build()
	want := bySolve(t, h, pair[0], pair[1])
	if want.Kind != kind {
		t.Fatalf("%s: layer 10 says %s", what, said(want))
	}
	wantLook(t, what, h, pair[0], pair[1], want)
	h.Point()
	wantLook(t, what+", with a point", h, pair[0], pair[1], want)
}

// doubling is a chain of compounds both of whose arguments are the next one, with something at its end: laid out it has more than 2^count parts.
func doubling(count int, end api.Node) api.Graph {
	g := of(nil, 0, count)
	for i := range count {
		g.Nodes = append(g.Nodes, c("f", i+1, i+1))
	}
	g.Nodes = append(g.Nodes, end)
	return g
}

// P13.1: chains whose terms laid out have 2^n parts.
func TestDoubling(t *testing.T) {
	const count = 1000
	for _, x := range []struct {
		left, right api.Node
		lengths     [2]int
		kind        int
	}{
		{a("a"), a("a"), [2]int{count, count}, isSame},
		{a("a"), a("b"), [2]int{count, count}, isApart},
		{v(), a("b"), [2]int{count, count}, isOpen},
		{v(), v(), [2]int{count, count}, isOpen},
		{a("a"), n(7), [2]int{count, count}, isApart},
		{a("a"), a("a"), [2]int{count, count - 1}, isApart},
		{a("a"), v(), [2]int{count, count - 100}, isOpen},
		{a("a"), v(), [2]int{count - 100, count}, isApart},
		{c("f", 0, 0), v(), [2]int{count, count - 7}, isOpen},
		{c("f", 0, 0), c("f", 0, 0), [2]int{count, count - 7}, isSame},
		{c("f", 0, 0), a("a"), [2]int{count, count - 7}, isApart},
	} {
		var pair [2]int
		build := func() *cells.Heap {
			h := heap(t, manyWords)
			left := put(t, h, doubling(x.lengths[0], x.left))
			h.Point()
			right := put(t, h, doubling(x.lengths[1], x.right))
			pair = [2]int{left[0], right[0]}
			return h
		}
		build()
		wantLarge(t, telling(of(nodes(x.left, x.right))), build, pair, x.kind)
	}
}

// P13.1: long circles of unlike lengths are one; with one part that is another they can't be.
func TestLongCircles(t *testing.T) {
	for _, x := range []struct{ p, q, other, kind int }{{999, 1000, -1, isSame}, {1, 2000, -1, isSame}, {1024, 512, -1, isSame}, {999, 1000, 123, isApart}, {1, 2000, 1999, isApart}} {
		var pair [2]int
		build := func() *cells.Heap {
			h := heap(t, manyWords)
			pair[0] = put(t, h, circle(x.p, -1))[0]
			h.Point()
			pair[1] = put(t, h, circle(x.q, x.other))[0]
			return h
		}
		build()
		wantLarge(t, "circles", build, pair, x.kind)
	}
}

// list is a list of so many variables that ends with something, whose roots are the list and its variables.
func list(count int, end api.Node) api.Graph {
	g := of(nil, 0)
	for i := range count {
		g.Nodes = append(g.Nodes, c(api.Cons, count+1+i, i+1))
		g.Roots = append(g.Roots, count+1+i)
	}
	g.Nodes = append(g.Nodes, end)
	g.Nodes = append(g.Nodes, slices.Repeat(nodes(v()), count)...)
	return g
}

// P13.1: lists of many variables: as many hang as can.
func TestManyVariables(t *testing.T) {
	const count = 900
	for _, x := range []struct {
		end, other api.Node
		count      int
		kind, vars int
	}{
		{a("[]"), a("[]"), count, isOpen, 2 * count},
		{v(), a("[]"), count, isOpen, 2*count + 1},
		{v(), v(), count, isOpen, 2*count + 2},
		{a("[]"), a("[]"), count - 1, isApart, 0},
		{a("[]"), v(), count - 1, isOpen, 2*count - 1},
		{c(api.Cons, count+1, 0), v(), count - 1, isOpen, 2*count - 1},
		{c(api.Cons, count+1, 0), c(api.Cons, count+1, 0), count, isOpen, 2 * count},
	} {
		var pair [2]int
		build := func() *cells.Heap {
			h := heap(t, manyWords)
			pair[0] = put(t, h, list(count, x.end))[0]
			pair[1] = put(t, h, list(x.count, x.other))[0]
			return h
		}
		want := bySolve(t, build(), pair[0], pair[1])
		if len(want.Vars) != x.vars {
			t.Errorf("layer 10 says %d, want %d", len(want.Vars), x.vars)
		}
		wantLarge(t, "lists", build, pair, x.kind)
	}
}

// chain is so many compounds within one another, with something at the end.
func chain(count int, end api.Node) api.Graph {
	g := of(nil, 0)
	for i := range count {
		g.Nodes = append(g.Nodes, c("s", i+1))
	}
	g.Nodes = append(g.Nodes, end)
	return g
}

// deep puts down a chain of three times as many compounds as a graph can hold, of pieces, and answers its cell and the place of its end, if that is a variable.
func deep(t *testing.T, h *cells.Heap, end api.Node) (int, int) {
	t.Helper()
	first := put(t, h, chain(most-1, v()))[0]
	last := h.Top() - 1
	for range 2 {
		next := put(t, h, chain(most-1, v()))[0]
		done(t, h.Bind(last, next))
		last = h.Top() - 1
	}
	at := put(t, h, of(nodes(end), 0))[0]
	done(t, h.Bind(last, at))
	x, err := h.Look(at)
	done(t, err)
	return first, x.At
}

// P13.1: terms that are deeper than a graph can tell; Get refuses them, Look doesn't.
func TestDeepest(t *testing.T) {
	for _, x := range []struct {
		left, right api.Node
		kind        int
	}{{a("a"), a("a"), isSame}, {a("a"), a("b"), isApart}, {a("a"), n(0), isApart}, {v(), n(0), isOpen}, {n(0), v(), isOpen}, {v(), v(), isOpen}} {
		h := heap(t, manyWords)
		left, one := deep(t, h, x.left)
		h.Point()
		right, other := deep(t, h, x.right)
		want := api.Verdict{Kind: x.kind}
		if x.left.Kind == kVar {
			want.Vars = append(want.Vars, one)
		}
		if x.right.Kind == kVar {
			want.Vars = append(want.Vars, other)
		}
		if slices.Sort(want.Vars); x.kind != isOpen {
			want.Vars = nil
		}
		if _, err := h.Get(left, right); err == nil {
			t.Error("Get tells it")
		}
		wantLook(t, "deep", h, left, right, want)
	}
}

// P13.1: a list that goes on with another one: to be that one, each of its variables must be one of the other's, and the other's end must be the other itself.
func TestOneBehindTheOther(t *testing.T) {
	h := heap(t, manyWords)
	var roots, ends [2]int
	for side := range roots {
		roots[side] = put(t, h, list(2000, v()))[0]
		x, err := h.Look(roots[side])
		done(t, err)
		for range 1999 {
			x, err = h.Look(x.Args[1])
			done(t, err)
		}
		ends[side] = x.Args[1]
	}
	done(t, h.Bind(ends[0], roots[1]))
	wantLook(t, "one behind the other", h, roots[0], roots[1], open(h).all(t, h, roots[0]))
}

// all is the verdict by which all free variables hang that a list holds, with the one at its end.
func (m laidOpen) all(t *testing.T, h *cells.Heap, at int) api.Verdict {
	t.Helper()
	out := api.Verdict{Kind: isOpen}
	for {
		x, err := h.Look(at)
		done(t, err)
		if x.Kind == kVar {
			out.Vars = append(out.Vars, x.At)
			break
		}
		out.Vars = append(out.Vars, m.held(x.Args[0]).value)
		at = x.Args[1]
	}
	slices.Sort(out.Vars)
	return out
}
