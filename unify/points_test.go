package unify_test

import (
	"strings"
	"testing"

	"tendril/api"
	"tendril/cells"
	"tendril/graph"
	"tendril/unify"
)

// P12.1: All of rows of pairs, of which later ones hang on those ahead.
func TestAll(t *testing.T) {
	for _, x := range []struct{ graphs, pairs, want string }{
		{"X a Y b: 0 1 2 3", "0-1 2-0", "a b: 0 0 0 1"},
		{"X a Y b: 0 1 2 3", "0-1 2-0 2-3", ""},
		{"X a Y b: 0 1 2 3", "2-3 2-0 0-1", ""},
		{"X a Y b: 0 1 2 3", "0-1 2-3", "a b: 0 0 1 1"},
		{"X a Y b: 0 1 2 3", "1-3 0-1", ""},
		{"X a Y b: 0 1 2 3", "0-1 1-3", ""},
		{"X a Y b: 0 1 2 3", "0-0 1-1 2-2 3-3", "X a Y b: 0 1 2 3"},
		{"X a Y b: 0 1 2 3", "0-1 0-1 1-0", "a X b: 0 0 1 2"},
		{"X Y Z U: 0 1 2 3", "3-2 2-1 1-0", "X: 0 0 0 0"},
		{"X Y Z U: 0 1 2 3", "0-1 1-2 2-3", "X: 0 0 0 0"},
		{"X Y Z U: 0 1 2 3", "0-3 1-2 3-1", "X: 0 0 0 0"},
		{"X Y Z U f(3): 0 1 2 3 4", "3-2 2-1 1-0 0-4", "f(0): 0 0 0 0 0"},
		{"X f(0) Y f(2): 0 1 2 3", "0-1 2-3", "f(0): 0 0 0 0"},
		{"X f(0) Y f(2): 0 1 2 3", "0-3 2-1", "f(0): 0 0 0 0"},
		{"X f(0) Y f(2): 0 1 2 3", "1-3", "X f(0): 0 1 0 1"},
		{"X f(0) Y g(2): 0 1 2 3", "0-3 2-1", "g(1) f(0): 0 1 1 0"},
		{"X f(0) Y g(2): 0 1 2 3", "0-3 2-1 2-0", ""},
		{"f(0) f(2) f(3) f(1): 0 1 2 3", "1-2", "f(0): 0 0 0 0"},
		{"f(0) f(2) f(3) f(1): 0 1 2 3", "1-2 0-3", "f(0): 0 0 0 0"},
		{"f(4) f(5) f(6) X Y Z U a: 0 1 2 4 5 6 7", "0-1 1-2 6-5", "f(1) a: 0 0 0 1 1 1 1"},
	} {
		wantTerms(t, x.graphs, x.pairs, x.want)
	}
}

// P12.1, P12.3: All leaves each cell with what Unify leaves it with, pair by pair; and where All is false, one of these is.
func TestAllIsOneByOne(t *testing.T) {
	yes, no := 0, 0
	for seed := range 4000 {
		d := dice(seed)
		g := d.graph(14)
		h, other := heap(t, 300), heap(t, 300)
		put(t, h, g)
		put(t, other, g)
		all := open(h).cells()
		var pairs [][2]int
		for range 1 + d.below(4) {
			pairs = append(pairs, [2]int{d.among(all), d.among(all)})
		}
		can := true
		for _, pair := range pairs {
			ok, err := unify.Unify(other, pair[0], pair[1])
			done(t, err)
			if can = ok; !can {
				break
			}
		}
		ok, err := unify.All(h, pairs)
		if ok != can || err != nil {
			t.Fatalf("%s, %v: %v, %v, one by one %v", telling(g), pairs, ok, err, can)
		}
		if !ok {
			no++
			continue
		}
		yes++
		x, err := h.Get(all...)
		y, err2 := other.Get(all...)
		if err != nil || err2 != nil || !graph.Same(x, y) {
			t.Fatalf("%s, %v: %s, %v, one by one %s, %v", telling(g), pairs, telling(x), err, telling(y), err2)
		}
	}
	if yes < 1000 || no < 1000 {
		t.Errorf("%d true, %d false", yes, no)
	}
}

// play does a row of things to a heap: terms are put down, a point is made, or roots' cells are made one.
func play(t *testing.T, row string) *cells.Heap {
	t.Helper()
	h := heap(t, 200)
	var all []int
	for s := range strings.SplitSeq(row, " | ") {
		pairs, isMake := strings.CutPrefix(s, "make ")
		switch {
		case s == "point":
			h.Point()
		case isMake:
			if ok, err := unify.All(h, placed(paired(pairs), all)); !ok || err != nil {
				t.Fatalf("%s: %v, %v", s, ok, err)
			}
		default:
			all = append(all, put(t, h, made(s))...)
		}
	}
	return h
}

// P12.1, P12.2: which words are written, and which of them are trailed, where there is but one way to do it: chapter 11 says which of two variables, or of two compounds, leads to the other.
func TestTrailed(t *testing.T) {
	for _, x := range []struct{ row, want string }{
		// Two variables.
		{"X: 0 | Y: 0 | make 0-1", "ref 1, ref 1, ref 3, ref 1 |  |  | "},
		{"X: 0 | Y: 0 | make 1-0", "ref 1, ref 1, ref 3, ref 1 |  |  | "},
		{"X: 0 | Y: 0 | point | make 1-0", "ref 1, ref 1, ref 3, ref 1 | 3 ref 3 | 0 4 | "},
		{"X: 0 | point | Y: 0 | make 0-1", "ref 1, ref 1, ref 3, ref 1 |  | 0 2 | "},
		// A variable below the point, and above it.
		{"X: 0 | point | a: 0 | make 0-1", "ref 1, atom 0, atom 0 | 1 ref 1 | 0 2 | a"},
		{"a: 0 | point | X: 0 | make 0-1", "atom 0, ref 2, atom 0 |  | 0 1 | a"},
		{"X: 0 | a: 0 | make 0-1", "ref 1, atom 0, atom 0 |  |  | a"},
		{"X: 0 | 7: 0 | point | make 1-0", "ref 1, int 7, int 7 | 1 ref 1 | 0 3 | "},
		{"X: 0 | f(0): 0 | make 1-0", "ref 1, str 3, str 3, fun 0/1, str 3 |  |  | f"},
		// The newest point is what counts.
		{"X: 0 | point | Y: 0 | point | a: 0 | make 0-2 1-2", "ref 1, atom 0, ref 3, atom 0, atom 0 | 1 ref 1, 3 ref 3 | 0 2, 0 4 | a"},
		{"X: 0 | point | point | a: 0 | make 0-1", "ref 1, atom 0, atom 0 | 1 ref 1 | 0 2, 0 2 | a"},
		{"X: 0 | point | a: 0 | make 0-1 | point", "ref 1, atom 0, atom 0 | 1 ref 1 | 0 2, 1 3 | a"},
		// Compounds, with what they hold.
		{"f(1) X: 0 | point | f(1) a: 0 | make 0-1", "str 1, fun 0/1, ref 3, atom 1, str 5, fwd 1, atom 1 | 3 ref 3 | 0 4 | f a"},
		{"f(1) a: 0 | point | f(1) X: 0 | make 0-1", "str 1, fun 0/1, atom 1, str 4, fwd 1, ref 6, atom 1 |  | 0 3 | f a"},
		{"f(1) a: 0 | f(1) a: 0 | make 1-0", "str 1, fun 0/1, atom 1, str 4, fwd 1, atom 1 |  |  | f a"},
		{"f(1) a: 0 | f(1) a: 0 | point | make 1-0", "str 1, fun 0/1, atom 1, str 4, fwd 1, atom 1 | 4 fun 0/1 | 0 6 | f a"},
	} {
		if got := laid(play(t, x.row).Dump()); got != x.want {
			t.Errorf("%s:\n%s, want\n%s", x.row, got, x.want)
		}
	}
}

// P12.1, P12.4: behind Undo what was made one is as it was; it can be made one with something else.
func TestUndone(t *testing.T) {
	h, r := holding(t, "f(1,2) X Y: 0 1 2", "f(1,1) Z: 0 1", "f(1,2) a b: 0", "a b: 0 1")
	var dumps []api.Dump
	for range 3 {
		dumps = append(dumps, h.Dump())
		h.Point()
		wantUnify(t, h, r[0], r[3], true)
		wantHeld(t, h, "f(1,1) X: 0 0 1 1 1", r[0], r[3], r[1], r[2], r[4])
		wantUnify(t, h, r[3], r[5], false)
		wantUnify(t, h, r[0], r[5], false)
		done(t, h.Undo(h.Points()-1))
		wantUnify(t, h, r[0], r[5], true)
		wantHeld(t, h, "f(1,2) a b: 0 0 1 2", r[0], r[5], r[1], r[2])
		wantUnify(t, h, r[0], r[3], false)
		done(t, h.Undo(h.Points()-1))
		wantUnify(t, h, r[1], r[6], true)
		wantUnify(t, h, r[0], r[3], true)
		wantUnify(t, h, r[2], r[7], false)
		done(t, h.Undo(h.Points()-1))
		h.Point()
		wantUnify(t, h, put(t, h, made("X: 0"))[0], r[5], true)
	}
	for p := 2; p >= 0; p-- {
		done(t, h.Undo(2*p))
		done(t, h.Release(2*p))
		wantSame(t, "undone", h.Dump(), dumps[p])
	}
}

// P12.1: neither call makes points that stay or allocates words, also where there is no room for one.
func TestNoRoom(t *testing.T) {
	g := made("f(1,2) X g(0) f(4,5) g(3) Y: 0 3")
	probe := heap(t, 100)
	want, err := probe.Need(g)
	done(t, err)
	for _, points := range []int{0, 1, 3} {
		for name, call := range ways(1) {
			h := heap(t, want)
			r := put(t, h, g)
			for range points {
				h.Point()
			}
			if ok, err := call(h, [][2]int{{r[0], r[1]}}); !ok || err != nil || h.Top() != want || h.Points() != points {
				t.Errorf("%s: %v, %v, Top %d, Points %d", name, ok, err, h.Top(), h.Points())
			}
			wantHeld(t, h, "f(1,1) g(0): 0 0", r...)
			if points == 0 && len(h.Dump().Trail) > 0 {
				t.Errorf("%s: the trail grows without a point: %s", name, laid(h.Dump()))
			}
		}
	}
}
