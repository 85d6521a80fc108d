package differ_test

import (
	"errors"
	"math"
	"slices"
	"testing"

	"tendril/api"
	"tendril/cells"
	"tendril/differ"
)

// mixed is a heap with words of each kind, a forward, a bound variable, two points and a trail; and how it is laid.
func mixed(t *testing.T) (*cells.Heap, laidOpen) {
	t.Helper()
	h, r := holding(t, "f(1,2) a X: 0 2", "f(1,2) Y 7: 0 1")
	h.Point()
	done(t, h.Merge(r[0], r[2]))
	done(t, h.Bind(r[1], r[2]))
	h.Point()
	put(t, h, made("g(1) Z b: 0 1 2"))
	m := open(h)
	tags := map[int]int{}
	for _, w := range m.Words {
		tags[tagOf(w)]++
	}
	for tag := tagRef; tag <= tagFwd; tag++ {
		if tags[tag] == 0 {
			t.Fatalf("no word of the tag %d: %s", tag, laid(m.Dump))
		}
	}
	if len(m.Trail) != 2 || len(m.Marks) != 2 {
		t.Fatal(laid(m.Dump))
	}
	return h, m
}

// strangePlaces is all places of a heap that are no cells', and some that are far off.
func strangePlaces(m laidOpen) []int {
	return append(m.strangers(), len(m.Words)+100, most, manyWords-1, manyWords, manyWords+1, 1<<32, math.MaxInt, math.MinInt, -manyWords)
}

// wantGet stops the test unless Get of places is refused at the same place for which these calls refuse them.
func wantGet(t *testing.T, h *cells.Heap, at int, places ...int) {
	t.Helper()
	_, err := h.Get(places...)
	var f *api.Fault
	if !errors.As(err, &f) || f.Code != errCell || f.At != at {
		t.Fatalf("Get%v: %v, want it refused at %d", places, err, at)
	}
}

// P13.1: Look refuses places that are no cells', as the first, as the second and as both; nothing has changed.
func TestLookRefuses(t *testing.T) {
	h, m := mixed(t)
	writes := h.Writes()
	refuses := func(one, other, at int) {
		t.Helper()
		x, err := differ.Look(h, one, other)
		if !isZero(x) || !isRefusal(err, at) {
			t.Fatalf("Look(%d, %d): %s, %v, want it refused at %d", one, other, said(x), err, at)
		}
		wantGet(t, h, at, one, other)
		wantSame(t, "refused", h.Dump(), m.Dump)
	}
	for _, bad := range strangePlaces(m) {
		for _, at := range m.cells() {
			refuses(bad, at, 0)
			refuses(at, bad, 1)
		}
		refuses(bad, bad, 0)
		for _, other := range strangePlaces(m) {
			refuses(bad, other, 0)
		}
	}
	if h.Writes() != writes {
		t.Errorf("%d writes", h.Writes()-writes)
	}
	// The cells are taken, all of them.
	for _, one := range m.cells() {
		for _, other := range m.cells() {
			wantLook(t, "taken", h, one, other, m.verdict(one, other))
		}
	}
}

// wantStillRefused stops the test unless Still of verdicts of each kind is refused at a place.
func wantStillRefused(t *testing.T, h *cells.Heap, vars []int, at int) {
	t.Helper()
	for _, kind := range kinds {
		if ok, err := differ.Still(h, api.Verdict{Kind: kind, Vars: vars}); ok || !isRefusal(err, at) {
			t.Fatalf("Still of %d, %v: %v, %v, want it refused at %d", kind, vars, ok, err, at)
		}
	}
}

// P13.1: Still refuses places that are no cells', as the only one, as the first, a middle and the last one, whatever the kind is, and whether the others are free or not; nothing has changed.
func TestStillRefuses(t *testing.T) {
	h, m := mixed(t)
	writes := h.Writes()
	var free []int
	for _, at := range m.cells() {
		if m.free(at) {
			free = append(free, at)
		}
	}
	for _, bad := range strangePlaces(m) {
		wantStillRefused(t, h, []int{bad}, 0)
		wantStillRefused(t, h, []int{bad, bad, bad}, 0)
		for _, list := range [][]int{free, m.cells()} {
			for i := range len(list) + 1 {
				vars := slices.Insert(slices.Clone(list), i, bad)
				wantStillRefused(t, h, vars, i)
				wantGet(t, h, i, vars...)
				// The first one counts.
				for _, other := range []int{-1, m.strangers()[4], len(m.Words)} {
					wantStillRefused(t, h, append(vars, other), i)
				}
			}
		}
	}
	wantSame(t, "refused", h.Dump(), m.Dump)
	if h.Writes() != writes {
		t.Errorf("%d writes", h.Writes()-writes)
	}
	// Far behind, also behind more places than a graph may have roots.
	for _, count := range []int{most - 1, most, most + 1, 100000} {
		wantStillRefused(t, h, append(slices.Repeat(free[:1], count), -1), count)
		wantStill(t, h, slices.Repeat(free[:1], count), true)
		wantStill(t, h, append(slices.Repeat(free[:1], count), 0), false)
	}
}

// P13.1: what is refused once is refused again; a place that is given back is no cell's; one that is forwarded is none either.
func TestRefusedAgain(t *testing.T) {
	h, r := holding(t, "f(1) a: 0", "f(1) X: 0 1")
	h.Point()
	x := put(t, h, made("Y: 0"))
	look := func(one, other, at int) {
		t.Helper()
		for range 3 {
			if got, err := differ.Look(h, one, other); !isZero(got) || !isRefusal(err, at) {
				t.Fatal(said(got), err)
			}
		}
	}
	wantLook(t, "put", h, r[0], x[0], api.Verdict{Kind: isOpen, Vars: []int{x[0] + 1}})
	wantStill(t, h, []int{x[0] + 1}, true)
	done(t, h.Undo(0))
	look(r[0], x[0], 1)
	look(x[0]+1, r[0], 0)
	wantStillRefused(t, h, []int{x[0] + 1}, 0)
	look(r[1]+2, r[0], 0)
	done(t, h.Merge(r[0], r[1]))
	if tagOf(h.Dump().Words[r[1]+2]) != tagFwd {
		t.Fatal(laid(h.Dump()))
	}
	look(r[1]+2, r[0], 0)
	look(r[0], r[1]+2, 1)
	wantStillRefused(t, h, []int{r[0], r[1] + 2}, 1)
}

// P13.1: in a heap with nothing in it no place is a cell's.
func TestEmptyHeap(t *testing.T) {
	h := heap(t, 5)
	for _, at := range []int{0, 1, -1, 4, 5, math.MaxInt, math.MinInt} {
		if x, err := differ.Look(h, at, 0); !isZero(x) || !isRefusal(err, 0) {
			t.Error(said(x), err)
		}
		wantStillRefused(t, h, []int{at}, 0)
		wantStillRefused(t, h, []int{at, at}, 0)
	}
	if got := laid(h.Dump()); got != " |  |  | " {
		t.Error(got)
	}
}

// R7: a nil heap answers ErrNil, ahead of all else: with places that are none, and with verdicts of every kind.
func TestNilHeap(t *testing.T) {
	for _, pair := range [][2]int{{0, 0}, {0, 1}, {-1, 0}, {0, -1}, {-1, -1}, {math.MaxInt, math.MinInt}} {
		if x, err := differ.Look(nil, pair[0], pair[1]); !isZero(x) || !isNil(err) {
			t.Error(said(x), err)
		}
	}
	for _, kind := range kinds {
		for _, vars := range [][]int{nil, {}, {0}, {-1}, {0, 1, 2}, {math.MaxInt, math.MinInt}} {
			if ok, err := differ.Still(nil, api.Verdict{Kind: kind, Vars: vars}); ok || !isNil(err) {
				t.Error(ok, err)
			}
		}
	}
}
