package differ_test

import (
	"math"
	"slices"
	"testing"

	"tendril/api"
	"tendril/cells"
	"tendril/differ"
	"tendril/unify"
)

// kinds are the kinds of verdicts, and numbers that are none.
var kinds = [9]int{isApart, isSame, isOpen, 0, 4, 5, -1, math.MaxInt, math.MinInt}

// spots are cells of a heap by what they are.
type spots struct{ free, bound, elsewhere, others []int }

// sorted is a heap with cells of each sort: variables that are free, variables that were bound to each kind of term, cells that refer to a variable elsewhere, and atoms, integers and compounds.
func sorted(t *testing.T) (*cells.Heap, spots) {
	t.Helper()
	h, _ := holding(t, "X Y Z: 0 1 2", "U V W S T a 7 f(2) f(0): 0 1 2 3 4 5 6 7 8")
	m := open(h)
	h.Point()
	for _, pair := range paired("6-11 7-12 8-13 9-1 10-0") {
		done(t, h.Bind(pair[0], pair[1]))
	}
	var x spots
	for _, at := range m.cells() {
		switch was, now := m.free(at), open(h).free(at); {
		case now:
			x.free = append(x.free, at)
		case was:
			x.bound = append(x.bound, at)
		case tagOf(m.Words[at]) == tagRef:
			x.elsewhere = append(x.elsewhere, at)
		default:
			x.others = append(x.others, at)
		}
	}
	if len(x.free) != 3 || len(x.bound) != 5 || len(x.elsewhere) != 10 || len(x.others) != 4 {
		t.Fatalf("%v: %s", x, laid(h.Dump()))
	}
	return h, x
}

// wantStill stops the test unless Still of verdicts of all kinds with these places answers as the chapter says, open ones with this; each time, with nothing changed.
func wantStill(t *testing.T, h *cells.Heap, vars []int, open bool) {
	t.Helper()
	before, writes := h.Dump(), h.Writes()
	for _, kind := range kinds {
		want := open || kind == isApart || kind == isSame
		for range 2 {
			if ok, err := differ.Still(h, api.Verdict{Kind: kind, Vars: vars}); ok != want || err != nil {
				t.Fatalf("Still of %d, %v: %v, %v, want %v; %s", kind, vars, ok, err, want, laid(before))
			}
		}
	}
	wantSame(t, "Still", h.Dump(), before)
	if h.Writes() != writes {
		t.Fatalf("Still of %v: %d writes", vars, h.Writes()-writes)
	}
}

// P13.1: Still of a verdict of each kind, and of a kind that is none, with no places and with places of each sort.
func TestStill(t *testing.T) {
	h, x := sorted(t)
	wantStill(t, h, nil, true)
	wantStill(t, h, []int{}, true)
	wantStill(t, h, x.free, true)
	for _, at := range x.free {
		wantStill(t, h, []int{at}, true)
		// Places that stand there twice, and such as don't rise.
		wantStill(t, h, []int{at, at}, true)
		wantStill(t, h, []int{x.free[2], at, x.free[0]}, true)
	}
	for _, list := range [][]int{x.bound, x.elsewhere, x.others} {
		wantStill(t, h, list, false)
		for _, at := range list {
			wantStill(t, h, []int{at}, false)
			// As the first, a middle and the last one.
			for i := range 4 {
				wantStill(t, h, slices.Insert(slices.Clone(x.free), i, at), false)
			}
		}
	}
	// Behind Undo those that were bound are free.
	done(t, h.Undo(0))
	wantStill(t, h, slices.Concat(x.free, x.bound), true)
	for _, at := range slices.Concat(x.elsewhere, x.others) {
		wantStill(t, h, []int{at}, false)
	}
	// In a heap with nothing in it no verdict is taken but one with no places.
	wantStill(t, heap(t, 5), nil, true)
}

// P13.1, P13.2: of two variables that are made one, one is no longer free at its place, and Still says so; whichever way round it was done.
func TestStillOfTwo(t *testing.T) {
	for _, pair := range paired("0-1 1-0") {
		h, r := holding(t, "X: 0", "Y: 0", "a: 0")
		x, err := differ.Look(h, r[0], r[1])
		if err != nil || !alike(x, api.Verdict{Kind: isOpen, Vars: []int{1, 3}}) {
			t.Fatal(said(x), err)
		}
		wantStill(t, h, x.Vars, true)
		h.Point()
		done(t, h.Bind(r[pair[0]], r[pair[1]]))
		wantStill(t, h, x.Vars, false)
		wantStill(t, h, x.Vars[:1], true)
		wantStill(t, h, x.Vars[1:], false)
		wantLook(t, "bound", h, r[0], r[1], api.Verdict{Kind: isSame})
		done(t, h.Undo(0))
		wantStill(t, h, x.Vars, true)
		done(t, h.Bind(r[pair[0]], r[2]))
		wantStill(t, h, x.Vars, false)
		wantLook(t, "bound", h, r[0], r[1], api.Verdict{Kind: isOpen, Vars: []int{x.Vars[pair[1]]}})
	}
}

// P13.2: an open verdict is as it was when variables are bound that aren't among its own: to terms of each kind, to one another, to those of the verdict, to what holds them.
func TestOtherVariablesBound(t *testing.T) {
	// X and f(Z, U) are open on X alone; so are g(X, Z) and g(f(Z, U), Z).
	const terms = "X f(2,3) Z U g(0,2) g(1,2) a f(2,2) h(0) f(0,1): 0 1 2 3 4 5 6 7 8 9"
	bindings := []string{"2-6", "3-6", "2-3", "3-2", "2-7", "2-8", "3-8", "2-9", "3-9", "2-1", "3-1", "2-5", "3-4", "2-0", "3-0"}
	still, woken := 0, 0
	for _, two := range paired("0-1 4-5 1-0 5-4") {
		for _, first := range bindings {
			for _, second := range bindings {
				h, r := holding(t, terms)
				x, err := differ.Look(h, r[two[0]], r[two[1]])
				if err != nil || x.Kind != isOpen || len(x.Vars) != 1 || !open(h).free(x.Vars[0]) {
					t.Fatal(said(x), err)
				}
				for _, pair := range slices.Concat(paired(first), paired(second)) {
					if _, err := unify.Unify(h, r[pair[0]], r[pair[1]]); err != nil {
						t.Fatal(err)
					}
				}
				if wantKept(t, h, r[two[0]], r[two[1]], x) {
					still++
				} else {
					woken++
				}
			}
		}
	}
	if still < 300 || woken < 20 {
		t.Errorf("%d still so, %d to be looked at again", still, woken)
	}
}

// wantKept stops the test unless Still of an open verdict of two cells answers as the words are, and a new Look says the same where it is true. It tells which.
func wantKept(t *testing.T, h *cells.Heap, one, other int, x api.Verdict) bool {
	t.Helper()
	m := open(h)
	bound := func(at int) bool { return !m.free(at) }
	want := !slices.ContainsFunc(x.Vars, bound)
	if ok, err := differ.Still(h, x); ok != want || err != nil {
		t.Fatalf("Still of %s: %v, %v, want %v; %s", said(x), ok, err, want, laid(m.Dump))
	}
	now := m.verdict(one, other)
	if want && !alike(now, x) {
		t.Fatalf("the words say %s, and said %s; %s", said(now), said(x), laid(m.Dump))
	}
	wantLook(t, short(laid(m.Dump)), h, one, other, now)
	return want
}
