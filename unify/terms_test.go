package unify_test

import (
	"strconv"
	"strings"
	"testing"

	"tendril/api"
	"tendril/cells"
	"tendril/graph"
	"tendril/unify"
)

// P12.1, P12.2, P12.4: the examples of the chapter.
func TestExamples(t *testing.T) {
	wantTerms(t, "X f(0): 0 1", "0-1", "f(0): 0 0")
	wantTerms(t, "f(2,3) f(4,5) X a b Y: 0 1 2 5", "0-1", "f(1,2) b a: 0 0 1 2")
	wantTerms(t, "f(2,2) f(3,4) X a b: 0 1 2", "0-1", "")
	wantTerms(t, "f(0) f(2) f(1): 0 1", "0-1", "f(0): 0 0")
	wantTerms(t, "f(0,2) f(1,3) a b: 0 1", "0-1", "")
	wantTerms(t, "X a Y X b: 0 1 2 0 2 4", "0-1 2-3 4-5", "")

	h, r := holding(t, "f(0) f(2) f(1): 0 1")
	if ok, err := unify.Unify(h, r[0], r[1]); !ok || err != nil || h.Writes() > 2 {
		t.Error(ok, err, h.Writes())
	}
	h, r = holding(t, "f(2,2) f(3,4) X a b: 0 1 2")
	if ok, err := unify.Unify(h, r[0], r[1]); ok || err != nil {
		t.Error(ok, err)
	}
	if x, err := h.Look(r[2]); err != nil || x.Kind != kVar {
		t.Error(x, err)
	}
	h, r = holding(t, "X a Y b: 0 1 2 3")
	if ok, err := unify.All(h, [][2]int{{r[0], r[1]}, {r[2], r[0]}, {r[2], r[3]}}); ok || err != nil {
		t.Error(ok, err)
	}
	for _, at := range []int{r[0], r[2]} {
		if x, err := h.Look(at); err != nil || x.Kind != kVar {
			t.Error(x, err)
		}
	}
}

// P12.1, P12.2, P12.3: one cell with itself makes no write; nor do two cells of one variable, of one compound, of one atom or integer.
func TestOneAlready(t *testing.T) {
	for _, s := range []string{"X: 0 0", "a: 0 0", "7: 0 0", "f(1) X: 0 0", "f(0): 0 0", "f(1,2) a f(0,2): 0 0", "a a: 0 1", "7 7: 0 1", "a f(0): 0 0"} {
		h, r := holding(t, s)
		before := laid(h.Dump())
		for _, pair := range paired("0-0 1-1 0-1 1-0") {
			for name, call := range ways(1) {
				if ok, err := call(h, placed([][2]int{pair}, r)); !ok || err != nil || h.Writes() != 0 || laid(h.Dump()) != before {
					t.Errorf("%s: %s of %v: %v, %v, %d writes", s, name, pair, ok, err, h.Writes())
				}
			}
		}
		wantTerms(t, s, "0-0", least(s))
		wantTerms(t, s, "0-1", least(s))
	}
}

// least is the least graph of a graph, as text.
func least(s string) string {
	g := leastOf(made(s))
	var out []string
	for _, m := range g.Nodes {
		switch m.Kind {
		case kVar:
			out = append(out, "X")
		case kAtom:
			out = append(out, m.Name)
		case kInt:
			out = append(out, strconv.Itoa(m.Num))
		case kComp:
			var args []string
			for _, arg := range m.Args {
				args = append(args, strconv.Itoa(arg))
			}
			out = append(out, m.Name+"("+strings.Join(args, ",")+")")
		}
	}
	out = append(out, ":")
	for _, r := range g.Roots {
		out = append(out, strconv.Itoa(r))
	}
	return strings.Join(out, " ")
}

// P12.1: terms of each kind with terms of each kind.
func TestKinds(t *testing.T) {
	for _, x := range []struct{ graphs, want string }{
		// Two variables, on either side.
		{"X Y: 0 1", "X: 0 0"},
		{"X: 0 | X: 0", "X: 0 0"},
		{"X Y: 1 0 0 1", "X: 0 0 0 0"},
		// A variable and what is none.
		{"X a: 0 1", "a: 0 0"},
		{"a X: 0 1", "a: 0 0"},
		{"X 7: 0 1", "7: 0 0"},
		{"X -7: 1 0", "-7: 0 0"},
		{"X: 0 | a: 0", "a: 0 0"},
		{"a: 0 | X: 0", "a: 0 0"},
		{"X f(2) Y: 0 1 2", "f(1) X: 0 0 1"},
		{"f(1) a: 0 | X: 0", "f(1) a: 0 0"},
		{"X: 0 | f(1) X: 0", "f(1) X: 0 0"},
		// A variable and a compound that holds it.
		{"X f(0): 0 1", "f(0): 0 0"},
		{"f(1) X: 0 1", "f(0): 0 0"},
		{"X f(2) g(0): 0 1 2", "f(1) g(0): 0 0 1"},
		{"f(0,1) X: 0 1", "f(0,0): 0 0"},
		{"f(0,1,2) X a: 1 0", "f(0,0,1) a: 0 0"},
		// Atoms and integers.
		{"a: 0 | a: 0", "a: 0 0"},
		{"7: 0 | 7: 0", "7: 0 0"},
		{"a b: 0 1", ""},
		{"a aa: 0 1", ""},
		{"7 8: 0 1", ""},
		{"7 -7: 0 1", ""},
		{"0 a: 0 1", ""},
		{"a 0: 0 1", ""},
		// What is no compound and a compound, of the same name too.
		{"a f(0): 0 1", ""},
		{"f f(0): 0 1", ""},
		{"f(1) f: 0 1", ""},
		{"0 f(0): 0 1", ""},
		{"f(1) 0: 0 1", ""},
		// Compounds.
		{"f(1) a: 0 | f(1) a: 0", "f(1) a: 0 0"},
		{"f(1) X: 0 | f(1) X: 0", "f(1) X: 0 0"},
		{"f(1) X f(3) Y: 0 2", "f(1) X: 0 0"},
		{"f(2) g(2) a: 0 1", ""},
		{"f(2) g(2) X: 0 1", ""},
		{"f(2) f(2,2) X: 0 1", ""},
		{"f(2,2) f(2) X: 0 1", ""},
		{"f(2,2,2,2,2,2,2,2) f(2,2,2,2,2,2,2) X: 0 1", ""},
		{"f(0) f(1,1): 0 1", ""},
		{"f(0) g(1): 0 1", ""},
	} {
		wantTerms(t, x.graphs, "0-1", x.want)
		wantTerms(t, x.graphs, "1-0", x.want)
	}
}

// P12.1: names, integers and functors that are nearly the same, and the greatest that may be.
func TestNearlyTheSame(t *testing.T) {
	long := strings.Repeat("~", longest)
	list := nodes(a("1"), n(1), a("a"), a("A"), a("aa"), a(long), a(long[1:]), a(long[1:]+"!"), n(great), n(-great), n(great-1), n(0), n(-1), c("1", 0), c("a", 0), c("a", 0, 0), c(long, 0), c(long[1:], 0), c(long, 0, 0, 0, 0, 0, 0, 0, 0), c(long, 0, 0, 0, 0, 0, 0, 0))
	g := of(list)
	for i := range list {
		g.Roots = append(g.Roots, i)
	}
	for i := range list {
		for j := range list {
			h := heap(t, 400)
			left, right := put(t, h, g), put(t, h, g)
			before := h.Dump()
			ok, err := unify.Unify(h, left[i], right[j])
			if ok != (i == j) || err != nil {
				t.Errorf("%v and %v: %v, %v", list[i], list[j], ok, err)
			}
			if !ok {
				wantSame(t, "false", h.Dump(), before)
			}
		}
	}
}

// P12.1, P12.4: two compounds of one functor, of each width, that are unlike in one argument, at each place; and that are not.
func TestEachArgument(t *testing.T) {
	for width := 1; width <= widest; width++ {
		for bad := -1; bad < width; bad++ {
			left, right := c("f"), c("f")
			list := nodes(left, right, a("a"), a("b"))
			for i := range width {
				list = append(list, v())
				list[0].Args = append(list[0].Args, 4+i)
				list[1].Args = append(list[1].Args, 2)
			}
			if bad >= 0 {
				list[0].Args[bad] = 3
			}
			build := func() *cells.Heap {
				h := heap(t, 100)
				put(t, h, of(list, 0, 1))
				h.Point()
				return h
			}
			if can := wantMade(t, build, [][2]int{{0, 1}}); can != (bad < 0) {
				t.Errorf("%d of %d: %v", bad, width, can)
			}
		}
	}
}

// P12.1: what follows from arguments that are variables.
func TestArguments(t *testing.T) {
	for _, x := range []struct{ graphs, want string }{
		{"f(1,1) X f(3,3) a: 0 2 1", "f(1,1) a: 0 0 1"},
		{"f(1,1) X f(3,4) a b: 0 2 1", ""},
		{"f(1,1) X f(3,4) a Y: 0 2 1 4", "f(1,1) a: 0 0 1 1"},
		{"f(1,2) X Y f(2,1): 0 3 1 2", "f(1,1) X: 0 0 1 1"},
		{"f(1,2,3) X Y Z f(2,3,5) a: 0 4 1 2 3", "f(1,1,1) a: 0 0 1 1 1"},
		{"f(1,2,3) X Y Z f(2,3,1): 0 4 1 2 3", "f(1,1,1) X: 0 0 1 1 1"},
		{"f(1,2) X Y f(4,5) g(2) g(1): 0 3 1 2", "f(1,1) g(1): 0 0 1 1"},
		{"f(1,2,1) X Y f(4,5,6) g(2) g(1) Z: 0 3 1 2 6", "f(1,1,1) g(1): 0 0 1 1 1"},
		{"f(1,2) X Y f(4,5) g(2) h(1): 0 3 1 2", "f(1,2) g(2) h(1): 0 0 1 2"},
		{"f(1,1) X f(3,4) g(1) h(1): 0 2 1", ""},
		{"f(1,1) X f(3,4) g(5) g(6) a b: 0 2 1", ""},
		{"f(1,1) X f(3,4) g(5) g(6) Y b: 0 2 1 5", "f(1,1) g(2) b: 0 0 1 2"},
		// It fails deep below, at the last and at the first that is looked at.
		{"f(1,2) X g(3) g(4) a f(1,6) g(7) g(8) b: 0 5", ""},
		{"f(2,1) X g(3) g(4) a f(6,1) g(7) g(8) b: 0 5", ""},
		{"f(1,2) X g(3) g(4) a f(1,6) g(7) g(8) a: 0 5 1", "f(1,2) X g(3) g(4) a: 0 0 1"},
		{"f(1,2) X a f(4,1) b: 0 3 1", ""},
		{"f(1,2) X a f(2,1): 0 3 1", "f(1,1) a: 0 0 1"},
	} {
		wantTerms(t, x.graphs, "0-1", x.want)
		wantTerms(t, x.graphs, "1-0", x.want)
	}
}

// P12.1, P12.2: compounds that hold themselves and one another, with circles of unlike lengths.
func TestCircles(t *testing.T) {
	for _, x := range []struct{ graphs, pairs, want string }{
		{"f(0): 0 | f(0): 0", "0-1", "f(0): 0 0"},
		{"f(0): 0 | f(1) f(2) f(0): 0", "0-1", "f(0): 0 0"},
		{"f(0): 0 | g(0): 0", "0-1", ""},
		{"f(0): 0 | f(1) a: 0", "0-1", ""},
		{"f(0): 0 | f(1) X: 0 1", "0-1", "f(0): 0 0 0"},
		{"f(1) f(0): 0 | f(1) f(2) f(0): 0", "0-1", "f(0): 0 0"},
		{"f(1) g(0): 0 1 | f(1) g(2) f(3) g(0): 0", "0-2", "f(1) g(0): 0 1 0"},
		{"f(1) g(0): 0 | f(1) g(2) f(0): 0", "0-1", ""},
		{"f(0,1) a: 0 | f(0,1) b: 0", "0-1", ""},
		{"f(0,1) X: 0 | f(0,1) b: 0", "0-1", "f(0,1) b: 0 0"},
		{"f(1,2) f(0,3) X a: 0 1 2", "0-1", "f(0,1) a: 0 0 1"},
		{"f(1,2) f(0,3) b a: 0 1", "0-1", ""},
		{"f(0,0): 0 | f(1,2) f(0,0) f(1,1): 0", "0-1", "f(0,0): 0 0"},
		{"f(0,1,0) a: 0 | f(0,1,2) a f(0,1,0): 0", "0-1", "f(0,1,0) a: 0 0"},
		{".(1,0) 0: 0 | .(1,2) 0 .(1,3) .(1,0): 0", "0-1", ".(1,0) 0: 0 0"},
		{".(1,0) 0: 0 | .(1,2) 0 .(1,3) .(4,0) 1: 0", "0-1", ""},
		{".(1,0) 0: 0 | .(1,2) X .(3,4) Y .(5,0) Z: 0 1 3 5", "0-1", ".(1,0) 0: 0 0 1 1 1"},
		{".(1,2) X .(3,0) Y: 0 1 3 | .(1,2) X .(3,4) Y .(5,0) Z: 0 1 3 5", "0-3", ".(1,0) X: 0 1 1 0 1 1 1"},
		{".(1,2) 0 .(3,0) 1: 0 | .(1,2) X .(3,4) Y .(5,0) Z: 0", "0-1", ""},
		{".(1,2) 0 .(3,0) 1: 0 | .(1,2) X .(3,4) Y .(5,6) Z .(7,0) U: 0 1 3 5 7", "0-1", ".(1,2) 0 .(3,0) 1: 0 0 1 3 1 3"},
		// Parts in common.
		{"f(1,1) g(2) X f(4,1) g(5) a: 0 3 2", "0-1", "f(1,1) g(2) a: 0 0 2"},
		{"f(1,1) g(2) X f(1,4) g(0): 0 3 2", "0-1", "f(1,1) g(0): 0 0 0"},
		{"f(0,1) g(0) f(2,1): 0 2", "0-1", "f(0,1) g(0): 0 0"},
		{"f(1) f(2) f(3) X: 0 1 3", "0-1", "f(0): 0 0 0"},
		{"f(1) f(2) f(3) a: 0 1", "0-1", ""},
		{"f(1) g(2) f(3) X: 0 2 3", "0-1", "f(1) g(0): 0 0 1"},
	} {
		wantTerms(t, x.graphs, x.pairs, x.want)
	}
}

// circle is a graph of f(.. f(itself)) with so many parts, or, where there is one other, with g in its place.
func circle(count, other int) api.Graph {
	g := of(nil, 0)
	for i := range count {
		name := "f"
		if i == other {
			name = "g"
		}
		g.Nodes = append(g.Nodes, c(name, (i+1)%count))
	}
	return g
}

// P12.1, P12.2, P12.3: circles of all lengths up to nine, of which one has another part or not, become one just if what they unfold to is.
func TestAllCircles(t *testing.T) {
	for p := 1; p <= 9; p++ {
		for q := 1; q <= 9; q++ {
			for _, other := range [][2]int{{-1, -1}, {0, -1}, {0, 0}, {p - 1, q - 1}} {
				build := func() *cells.Heap {
					h := heap(t, 100)
					put(t, h, circle(p, other[0]))
					h.Point()
					put(t, h, circle(q, other[1]))
					return h
				}
				alike := other[0] < 0 || p == q && other[1] >= 0
				if can := wantMade(t, build, [][2]int{{0, 1 + 2*p}}); can != alike {
					t.Fatalf("%d and %d, %v: %v", p, q, other, can)
				}
			}
		}
	}
}

// P12.1, P12.2: terms that were bound, merged and forwarded before, and again behind Undo.
func TestBefore(t *testing.T) {
	h, r := holding(t, "f(1) a: 0", "f(1) b: 0", "f(1) X: 0 1", "Y Z: 0 1")
	p, err := h.Point()
	done(t, err)
	start := h.Dump()
	// As merged, the second is f(a), and so is the third.
	done(t, h.Merge(r[1], r[0]))
	wantUnify(t, h, r[1], r[2], true)
	wantHeld(t, h, "f(1) a: 0 0 0 1", r[0], r[1], r[2], r[3])
	done(t, h.Undo(p))
	wantSame(t, "undone", h.Dump(), start)
	// Behind Undo they are unlike again; the third can be either.
	wantUnify(t, h, r[1], r[0], false)
	wantUnify(t, h, r[1], r[2], true)
	wantHeld(t, h, "f(1) a f(3) b: 0 2 2 3", r[0], r[1], r[2], r[3])
	wantUnify(t, h, r[0], r[2], false)
	done(t, h.Undo(p))
	// A variable that leads to another, that leads to a compound that is forwarded.
	done(t, h.Bind(r[5], r[4]))
	done(t, h.Bind(r[4], r[2]))
	done(t, h.Merge(r[2], r[1]))
	wantUnify(t, h, r[5], r[0], false)
	wantUnify(t, h, r[5], r[1], true)
	wantHeld(t, h, "f(1) b: 0 0 0 0", r[1], r[2], r[4], r[5])
	done(t, h.Undo(p))
	wantSame(t, "undone", h.Dump(), start)
	wantUnify(t, h, r[5], r[4], true)
	wantUnify(t, h, r[4], r[0], true)
	wantUnify(t, h, r[5], r[1], false)
	wantHeld(t, h, "f(1) a: 0 0 0", r[0], r[4], r[5])
}

// wantUnify stops the test unless Unify answers so, and if false leaves the heap as it was.
func wantUnify(t *testing.T, h *cells.Heap, one, other int, want bool) {
	t.Helper()
	wantCall(t, "Unify", h, byUnify, [][2]int{{one, other}}, want)
}

// wantHeld stops the test unless cells hold this.
func wantHeld(t *testing.T, h *cells.Heap, want string, places ...int) {
	t.Helper()
	if g, err := h.Get(places...); err != nil || !graph.Same(g, made(want)) {
		t.Fatalf("%v hold %s, %v, want %s", places, telling(g), err, want)
	}
}
