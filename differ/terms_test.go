package differ_test

import (
	"strings"
	"testing"

	"tendril/api"
	"tendril/cells"
)

// P13.1: the examples of the chapter, with X at 4 and Y at 7.
func TestExamples(t *testing.T) {
	// The roots' cells at 0 to 3, X at 4, a compound at 5, Y at 7.
	build := func() *cells.Heap {
		h := heap(t, 100)
		put(t, h, made("X g(2) Y a: 0 1 2 3"))
		if got := laid(h.Dump()); got != "ref 4, str 5, ref 7, atom 1, ref 4, fun 0/1, ref 7, ref 7 |  |  | g a" {
			t.Fatal(got)
		}
		return h
	}
	// grown is such a heap with compounds of X, Y, a and b besides, and the places of their cells.
	grown := func(list ...string) (*cells.Heap, []int) {
		h := build()
		var all []int
		for _, s := range list {
			r := put(t, h, made(s))
			done(t, h.Bind(r[1], 4))
			done(t, h.Bind(r[2], 7))
			all = append(all, r[0])
		}
		return h, all
	}
	wantLook(t, "X and a", build(), 0, 3, api.Verdict{Kind: isOpen, Vars: []int{4}})
	wantLook(t, "X and Y", build(), 0, 2, api.Verdict{Kind: isOpen, Vars: []int{4, 7}})
	wantLook(t, "X and X", build(), 0, 0, api.Verdict{Kind: isSame})
	wantLook(t, "X and X", build(), 0, 4, api.Verdict{Kind: isSame})
	h, r := grown("f(1,3) X Y a: 0 1 2", "f(2,3) X Y a: 0 1 2")
	wantLook(t, "f(X, a) and f(Y, a)", h, r[0], r[1], api.Verdict{Kind: isOpen, Vars: []int{4, 7}})
	h, r = grown("f(3) X Y a: 0 1 2", "g(3) X Y a: 0 1 2")
	wantLook(t, "f(a) and g(a)", h, r[0], r[1], api.Verdict{Kind: isApart})
	h, r = grown("f(1,2) X Y: 0 1 2", "f(3,4) X Y a b: 0 1 2")
	wantLook(t, "f(X, Y) and f(a, b)", h, r[0], r[1], api.Verdict{Kind: isOpen, Vars: []int{4, 7}})
	h, r = grown("f(1,1) X Y: 0 1 2", "f(3,4) X Y a b: 0 1 2")
	wantLook(t, "f(X, X) and f(a, b)", h, r[0], r[1], api.Verdict{Kind: isApart})
	h, r = grown("f(1) X Y: 0 1 2", "f(3) X Y f(1): 0 1 2")
	wantLook(t, "X and f(X)", h, 0, r[0], api.Verdict{Kind: isOpen, Vars: []int{4}})
	done(t, h.Bind(0, r[0]))
	wantLook(t, "X and f(f(X))", h, 0, r[1], api.Verdict{Kind: isSame})
}

// P13.1: one cell with itself, and two cells of one term: the same.
func TestOneAlready(t *testing.T) {
	for _, s := range []string{"X: 0 0", "a: 0 0", "7: 0 0", "f(1) X: 0 0", "f(0): 0 0", "f(1,2) a f(0,2): 0 0", "a a: 0 1", "7 7: 0 1", "a f(0): 0 0"} {
		wantTerms(t, s, "0-1", "same")
		h, _ := holding(t, s)
		for _, at := range open(h).cells() {
			wantLook(t, s, h, at, at, api.Verdict{Kind: isSame})
		}
		if h.Writes() != 0 {
			t.Errorf("%s: %d writes", s, h.Writes())
		}
	}
}

// P13.1, P13.3: terms of each kind with terms of each kind.
func TestKinds(t *testing.T) {
	for _, x := range []struct{ graphs, pair, want string }{
		// Two variables, the lesser place first and last.
		{"X Y: 0 1", "0-1", "open 0 1"},
		{"X: 0 | X: 0", "0-1", "open 0 1"},
		{"X Y: 1 0 0 1", "0-1", "open 0 1"},
		{"Y: 0 | f(1) X: 0 1", "0-2", "open 0 2"},
		// A variable and what is none.
		{"X a: 0 1", "0-1", "open 0"},
		{"a X: 0 1", "0-1", "open 1"},
		{"X 7: 0 1", "0-1", "open 0"},
		{"X -7: 1 0", "0-1", "open 1"},
		{"X: 0 | a: 0", "0-1", "open 0"},
		{"a: 0 | X: 0", "0-1", "open 1"},
		{"X f(2) Y: 0 1 2", "0-1", "open 0"},
		{"f(1) a: 0 | X: 0", "0-1", "open 1"},
		{"X: 0 | f(1) X: 0 1", "0-1", "open 0"},
		// A variable and a compound that holds it.
		{"X f(0): 0 1", "0-1", "open 0"},
		{"f(1) X: 0 1", "0-1", "open 1"},
		{"X f(2) g(0): 0 1 2", "0-1", "open 0"},
		{"f(0,1) X: 0 1", "0-1", "open 1"},
		{"f(0,1,2) X a: 1 0", "0-1", "open 0"},
		// Atoms and integers.
		{"a: 0 | a: 0", "0-1", "same"},
		{"7: 0 | 7: 0", "0-1", "same"},
		{"a b: 0 1", "0-1", "apart"},
		{"a aa: 0 1", "0-1", "apart"},
		{"7 8: 0 1", "0-1", "apart"},
		{"7 -7: 0 1", "0-1", "apart"},
		{"0 a: 0 1", "0-1", "apart"},
		{"a 0: 0 1", "0-1", "apart"},
		// What is no compound and a compound, of the same name too.
		{"a f(0): 0 1", "0-1", "apart"},
		{"f f(0): 0 1", "0-1", "apart"},
		{"f(1) f: 0 1", "0-1", "apart"},
		{"0 f(0): 0 1", "0-1", "apart"},
		{"f(1) 0: 0 1", "0-1", "apart"},
		{"f(1) X f: 0 2", "0-1", "apart"},
		// Compounds; of two places that are one term, too.
		{"f(1) a: 0 | f(1) a: 0", "0-1", "same"},
		{"f(1) X f(1): 0 2", "0-1", "same"},
		{"f(1,2) X Y f(1,2): 0 3 1 2", "0-1", "same"},
		{"f(1) X: 0 1 | f(1) X: 0 1", "0-2", "open 1 3"},
		{"f(1) X f(3) Y: 0 2 1 3", "0-1", "open 2 3"},
		{"f(2) g(2) a: 0 1", "0-1", "apart"},
		{"f(2) g(2) X: 0 1", "0-1", "apart"},
		{"f(2) f(2,2) X: 0 1", "0-1", "apart"},
		{"f(2,2) f(2) X: 0 1", "0-1", "apart"},
		{"f(2,2,2,2,2,2,2,2) f(2,2,2,2,2,2,2) X: 0 1", "0-1", "apart"},
		{"f(0) f(1,1): 0 1", "0-1", "apart"},
		{"f(0) g(1): 0 1", "0-1", "apart"},
	} {
		wantTerms(t, x.graphs, x.pair, x.want)
	}
}

// P13.1: variables that stand for themselves alone beside ones that don't; variables that are met more than once, on both sides, and only through others.
func TestWhichHang(t *testing.T) {
	for _, x := range []struct{ graphs, pair, want string }{
		// The same variable in the same place of both.
		{"f(1,2) X Y f(1,4) a: 0 3 1 2", "0-1", "open 3"},
		{"f(1,2,3) X Y Z f(1,5,3) a: 0 4 1 2 3", "0-1", "open 3"},
		{"f(1,2) X Y f(1,4) Z: 0 3 1 2 4", "0-1", "open 3 4"},
		// A variable within what another becomes.
		{"X f(2,2) Y: 0 1 2", "0-1", "open 0"},
		{"f(1,2) X Y f(4,2) g(2): 0 3 1 2", "0-1", "open 2"},
		{"f(1,2) X Y f(4,5) g(2) a: 0 3 1 2", "0-1", "open 2 3"},
		// More than once.
		{"f(1,1) X f(3,3) a: 0 2 1", "0-1", "open 2"},
		{"f(1,1) X f(3,4) a b: 0 2 1", "0-1", "apart"},
		{"f(1,1) X f(3,4) a Y: 0 2 1 4", "0-1", "open 2 3"},
		{"f(1,1) X f(3,3) Y: 0 2 1 3", "0-1", "open 2 3"},
		// On both sides.
		{"f(1,2) X Y f(2,1): 0 3 1 2", "0-1", "open 2 3"},
		{"f(1,2,3) X Y Z f(2,1,3): 0 4 1 2 3", "0-1", "open 2 3"},
		{"f(1,2,3) X Y Z f(2,3,1): 0 4 1 2 3", "0-1", "open 2 3 4"},
		{"f(1,2,3) X Y Z f(2,3,5) a: 0 4 1 2 3", "0-1", "open 2 3 4"},
		{"f(1,2) X Y f(4,5) g(2) g(1): 0 3 1 2", "0-1", "open 2 3"},
		{"f(1,2) X Y f(4,5) g(2) h(1): 0 3 1 2", "0-1", "open 2 3"},
		// Only through others: X is g(Y) and g(a), so that Y is a.
		{"f(1,1) X f(3,4) g(5) g(6) Y a: 0 2 1 5", "0-1", "open 2 3"},
		{"f(1,1) X f(3,4) g(5) g(6) Y Z: 0 2 1 5 6", "0-1", "open 2 3 4"},
		{"f(1,1) X f(3,4) g(5) g(6) a b: 0 2 1", "0-1", "apart"},
		{"f(1,1) X f(3,4) g(5,7) g(6,7) Y a Z: 0 2 1 5 7", "0-1", "open 2 3"},
		{"f(1,1,1) X f(3,4,5) Y Z U: 0 2 1 3 4 5", "0-1", "open 2 3 4 5"},
		{"f(1,1) X f(3,4) g(1) h(1): 0 2 1", "0-1", "apart"},
		// It fails deep below, at the last and at the first that is looked at.
		{"f(1,2) X g(3) g(4) a f(6,7) Y g(8) g(9) b: 0 5", "0-1", "apart"},
		{"f(2,1) X g(3) g(4) a f(7,6) Y g(8) g(9) b: 0 5", "0-1", "apart"},
		{"f(1,2) X g(3) g(4) a f(6,7) Y g(8) g(9) a: 0 5 1 6", "0-1", "open 2 3"},
		{"f(1,2) X a f(4,1) b: 0 3 1", "0-1", "apart"},
		{"f(1,2) X a f(2,1): 0 3 1", "0-1", "open 2"},
		// Variables that neither of the two holds.
		{"f(1) X f(3) a Y Z: 0 2 1 4 5", "0-1", "open 2"},
		{"a b X: 0 1 2", "0-1", "apart"},
		{"a a X: 0 1 2", "0-1", "same"},
	} {
		wantTerms(t, x.graphs, x.pair, x.want)
	}
}

// P13.1: circles of unlike lengths that are one already, that can be made one, and that can't.
func TestCircles(t *testing.T) {
	for _, x := range []struct{ graphs, pair, want string }{
		{"f(0): 0 | f(0): 0", "0-1", "same"},
		{"f(0): 0 | f(1) f(2) f(0): 0", "0-1", "same"},
		{"f(1) f(0): 0 | f(1) f(2) f(0): 0", "0-1", "same"},
		{"f(1) g(0): 0 | f(1) g(2) f(3) g(0): 0", "0-1", "same"},
		{"f(0,0): 0 | f(1,2) f(0,0) f(1,1): 0", "0-1", "same"},
		{"f(0,1,0) a: 0 | f(0,1,2) a f(0,1,0): 0", "0-1", "same"},
		{".(1,0) 0: 0 | .(1,2) 0 .(1,3) .(1,0): 0", "0-1", "same"},
		{".(1,0) X .(1,3) .(1,2): 0 2 1", "0-1", "same"},
		{"f(0): 0 | f(1) X: 0 1", "0-1", "open 2"},
		{"f(0,1) X: 0 1 | f(0,1) b: 0", "0-2", "open 1"},
		{"f(0,1) X f(2,3) b: 0 2 1", "0-1", "open 2"},
		{"f(1,2) f(0,3) X a: 0 1 2", "0-1", "open 2"},
		{".(1,0) 0 .(3,4) Y .(5,6) Z .(7,2) U: 0 2 3 5 7", "0-1", "open 2 3 4"},
		{".(1,2) X .(3,0) Y .(5,6) Z .(7,8) U .(9,4) V: 0 4 1 3 5 7 9", "0-1", "open 2 3 4 5 6"},
		{".(1,2) 0 .(3,0) 1 .(5,6) X .(7,8) Y .(9,4) Z: 0 4 5 7 9", "0-1", "apart"},
		{".(1,2) 0 .(3,0) 1 .(5,6) X .(7,8) Y .(9,10) Z .(11,4) U: 0 4 5 7 9 11", "0-1", "open 2 3 4 5"},
		{"f(0): 0 | g(0): 0", "0-1", "apart"},
		{"f(0): 0 | f(1) a: 0", "0-1", "apart"},
		{"f(1) g(0): 0 | f(1) g(2) f(0): 0", "0-1", "apart"},
		{"f(0,1) a: 0 | f(0,1) b: 0", "0-1", "apart"},
		{"f(1,2) f(0,3) b a: 0 1", "0-1", "apart"},
		{".(1,0) 0: 0 | .(1,2) 0 .(1,3) .(4,0) 1: 0", "0-1", "apart"},
		// Parts in common.
		{"f(1,1) g(2) X f(4,1) g(5) a: 0 3 2", "0-1", "open 2"},
		{"f(1,1) g(2) X f(1,4) g(0): 0 3 2", "0-1", "open 2"},
		{"f(0,1) g(0) f(2,1): 0 2", "0-1", "same"},
		{"f(1) f(2) f(3) X: 0 1 3", "0-1", "open 2"},
		{"f(1) f(2) f(3) a: 0 1", "0-1", "apart"},
		{"f(1) g(2) f(3) X: 0 2 3", "0-1", "open 2"},
	} {
		wantTerms(t, x.graphs, x.pair, x.want)
	}
}

// circle is a graph of f(.. f(itself)) with so many parts, or, where there is one other, with g in its place.
func circle(count, other int) api.Graph {
	g := of(nil, 0)
	for i := range count {
		name := "f"
		if i == other {
			name = "g"
		}
		g.Nodes = append(g.Nodes, c(name, (i+1)%count))
	}
	return g
}

// P13.1: circles of all lengths up to eight, of which one has another part or not, are the same just if what they unfold to is.
func TestAllCircles(t *testing.T) {
	for p := 1; p <= 8; p++ {
		for q := 1; q <= 8; q++ {
			for _, other := range [][2]int{{-1, -1}, {0, -1}, {0, 0}, {p - 1, q - 1}} {
				build := func() *cells.Heap {
					h := heap(t, 100)
					put(t, h, circle(p, other[0]))
					h.Point()
					put(t, h, circle(q, other[1]))
					return h
				}
				want := isApart
				if other[0] < 0 || p == q && other[1] >= 0 {
					want = isSame
				}
				if got := wantVerdict(t, build, 0, 1+2*p); got.Kind != want {
					t.Fatalf("%d and %d, %v: %s", p, q, other, said(got))
				}
			}
		}
	}
}

// P13.1: names, integers and functors that are nearly the same, and the greatest that may be.
func TestNearlyTheSame(t *testing.T) {
	long := strings.Repeat("~", longest)
	list := nodes(a("1"), n(1), a("a"), a("A"), a("aa"), a(long), a(long[1:]), a(long[1:]+"!"), n(great), n(-great), n(great-1), n(0), n(-1), c("1", 0), c("a", 0), c("a", 0, 0), c(long, 0), c(long[1:], 0), c(long, 0, 0, 0, 0, 0, 0, 0, 0), c(long, 0, 0, 0, 0, 0, 0, 0))
	g := of(list)
	for i := range list {
		g.Roots = append(g.Roots, i)
	}
	h := heap(t, 400)
	left, right := put(t, h, g), put(t, h, g)
	for i := range list {
		for j := range list {
			want := api.Verdict{Kind: isApart}
			if i == j {
				want.Kind = isSame
			}
			wantLook(t, "nearly", h, left[i], right[j], want)
		}
	}
}

// P13.1: two compounds of one functor, of each width, that are unlike in one argument, at each place; whose variable hangs at each place; and that are the same.
func TestEachArgument(t *testing.T) {
	for width := 1; width <= widest; width++ {
		for at := range width {
			for _, x := range []struct {
				here api.Node
				kind int
			}{{a("b"), isApart}, {v(), isOpen}, {a("a"), isSame}} {
				list := nodes(c("f"), c("f"), a("a"), x.here)
				for i := range width {
					list[0].Args = append(list[0].Args, 2)
					list[1].Args = append(list[1].Args, 2)
					if i == at {
						list[0].Args[i] = 3
					}
				}
				build := func() *cells.Heap {
					h := heap(t, 100)
					put(t, h, of(list, 0, 1, 3))
					return h
				}
				got := wantVerdict(t, build, 0, 1)
				if got.Kind != x.kind || x.kind == isOpen && (len(got.Vars) != 1 || got.Vars[0] != valueOf(build().Dump().Words[2])) {
					t.Errorf("%d of %d: %s", at, width, said(got))
				}
			}
		}
	}
}
