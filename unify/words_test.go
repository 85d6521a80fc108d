package unify_test

import (
	"slices"
	"strings"
	"testing"

	"tendril/api"
	"tendril/cells"
	"tendril/unify"
)

// slid is a heap in which a graph was put down, without its roots' cells: so what is met first stands at the place 0.
func slid(t *testing.T, s string) *cells.Heap {
	t.Helper()
	h := heap(t, 100)
	roots := put(t, h, made(s))
	keep := slices.Repeat([]bool{true}, h.Top())
	for _, at := range roots {
		keep[at] = false
	}
	_, err := h.Slide(keep)
	done(t, err)
	return h
}

// P12.1: a variable and a compound at the place 0, with themselves, with what holds them, and with all else.
func TestPlaceZero(t *testing.T) {
	var found census
	for _, s := range []string{"X: 0", "X f(0) Y: 0 1 2", "f(0): 0", "f(0,1) X: 0", "f(1,1) f(2,2) f(0,0): 0", "f(1) X f(0): 0 2", "X f(0,0) a f(0,2) f(2,4): 0 1 2 3 4", "f(1) f(0) g(0) f(2): 0 1 2 3"} {
		build := func() *cells.Heap { return slid(t, s) }
		m := open(build())
		if first := tagOf(m.Words[0]); first != tagRef && first != tagFun {
			t.Fatal(laid(m.Dump))
		}
		for _, one := range m.cells() {
			for _, other := range m.cells() {
				found.count(wantMade(t, build, [][2]int{{one, other}}))
				found.count(wantMade(t, build, [][2]int{{one, other}, {other, one}, {one, one}}))
			}
		}
	}
	if found.yes < 100 || found.no < 10 {
		t.Errorf("%v", found)
	}
}

// shuffled is pairs in another order, some of them turned, some of them twice.
func (d *dice) shuffled(pairs [][2]int) [][2]int {
	out := slices.Clone(pairs)
	for range d.below(3) {
		out = append(out, pairs[d.below(len(pairs))])
	}
	for i := range out {
		j := d.below(i + 1)
		out[i], out[j] = out[j], out[i]
		if d.below(2) == 0 {
			out[i][0], out[i][1] = out[i][1], out[i][0]
		}
	}
	return out
}

// P12.3: the order of the two, and that of pairs, makes no difference, not even to the words.
func TestSameWords(t *testing.T) {
	var found census
	for seed := range 4000 {
		d := dice(seed)
		g := d.graph(20)
		build := func() *cells.Heap {
			h := heap(t, 400)
			put(t, h, g)
			return h
		}
		all := open(build()).cells()
		var pairs [][2]int
		for range 1 + d.below(4) {
			pairs = append(pairs, [2]int{d.among(all), d.among(all)})
		}
		h := build()
		can, err := unify.All(h, pairs)
		done(t, err)
		found.count(can)
		for range 3 {
			other, also := build(), d.shuffled(pairs)
			ok, err := unify.All(other, also)
			if ok != can || err != nil {
				t.Fatalf("%s, %v: %v, but %v, %v of %v", telling(g), pairs, can, ok, err, also)
			}
			wantSame(t, "in another order", other.Dump(), h.Dump())
		}
	}
	if found.yes < 1000 || found.no < 1000 {
		t.Errorf("%v", found)
	}
}

// P12.2: what one call makes one leads straight to its end: the least place of the compounds, else of the variables, that are one.
func TestStraight(t *testing.T) {
	row := func(kind string, count int) string {
		var list, roots []string
		for i := range count {
			list = append(list, kind)
			roots = append(roots, []string{"0", "1", "2", "3", "4", "5", "6", "7"}[i])
		}
		return strings.Join(list, " ") + ": " + strings.Join(roots, " ")
	}
	for _, pairs := range []string{"7-6 6-5 5-4 4-3 3-2 2-1 1-0", "0-1 1-2 2-3 3-4 4-5 5-6 6-7", "0-7 7-1 1-6 6-2 2-5 5-3 3-4", "3-4 5-2 6-1 7-0 3-5 6-7 5-6"} {
		h, r := holding(t, row("X", 8))
		if ok, err := unify.All(h, placed(paired(pairs), r)); !ok || err != nil {
			t.Fatal(ok, err)
		}
		if got := laid(h.Dump()); got != "ref 8, ref 9, ref 10, ref 11, ref 12, ref 13, ref 14, ref 15, ref 8, ref 8, ref 8, ref 8, ref 8, ref 8, ref 8, ref 8 |  |  | " {
			t.Error(pairs, got)
		}
		h, r = holding(t, row("f(0)", 8))
		if ok, err := unify.All(h, placed(paired(pairs), r)); !ok || err != nil {
			t.Fatal(ok, err)
		}
		want := api.Cell{Kind: kComp, At: 8, Name: "f", Args: []int{9}}
		words := h.Dump().Words
		for i, at := range r {
			x, err := h.Look(at)
			if err != nil || x.At != want.At || x.Name != want.Name || !slices.Equal(x.Args, want.Args) {
				t.Error(pairs, x, err)
			}
			if functor := 8 + 2*i; i > 0 && tell(words[functor]) != "fwd 8" {
				t.Error(pairs, laid(h.Dump()))
			}
		}
	}
}
