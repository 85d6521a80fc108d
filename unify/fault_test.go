package unify_test

import (
	"errors"
	"math"
	"slices"
	"testing"

	"tendril/api"
	"tendril/cells"
	"tendril/unify"
)

// mixed is a heap with words of each kind, a forward, a bound variable, two points and a trail; and its cells.
func mixed(t *testing.T) (*cells.Heap, laidOpen) {
	t.Helper()
	h, r := holding(t, "f(1,2) a X: 0 2", "f(1,2) Y 7: 0 1")
	h.Point()
	done(t, h.Merge(r[0], r[2]))
	done(t, h.Bind(r[1], r[2]))
	h.Point()
	put(t, h, made("g(1) Z b: 0 1 2"))
	return h, open(h)
}

// strangePlaces is all places of a heap that are no cells', and some that are far off.
func strangePlaces(m laidOpen) []int {
	return append(m.strangers(), len(m.Words)+100, most, manyWords-1, manyWords, manyWords+1, 1<<32, math.MaxInt, math.MinInt, -manyWords)
}

// The heap of these tests must have a functor and a forward.
func TestMixed(t *testing.T) {
	_, m := mixed(t)
	tags := map[int]int{}
	for _, w := range m.Words {
		tags[tagOf(w)]++
	}
	for tag := tagRef; tag <= tagFwd; tag++ {
		if tags[tag] == 0 {
			t.Errorf("no word of the tag %d: %s", tag, laid(m.Dump))
		}
	}
	if len(m.Trail) != 2 || len(m.Marks) != 2 {
		t.Error(laid(m.Dump))
	}
}

// P12.1, P12.4: Unify refuses places that are no cells', as the first, as the second and as both; nothing has changed.
func TestUnifyRefuses(t *testing.T) {
	h, m := mixed(t)
	writes := h.Writes()
	refuses := func(one, other, at int) {
		t.Helper()
		ok, err := unify.Unify(h, one, other)
		if ok || !isRefusal(err, at, at) {
			t.Errorf("Unify(%d, %d): %v, %v, want it refused at %d", one, other, ok, err, at)
		}
		_, cause := h.Get(one, other)
		var f *api.Fault
		if !errors.As(cause, &f) || f.At != at || f.Code != errCell {
			t.Errorf("Get(%d, %d): %v", one, other, cause)
		}
		wantSame(t, "refused", h.Dump(), m.Dump)
	}
	for _, bad := range strangePlaces(m) {
		for _, good := range m.cells() {
			refuses(bad, good, 0)
			refuses(good, bad, 1)
		}
		for _, also := range strangePlaces(m) {
			refuses(bad, also, 0)
		}
	}
	if h.Writes() != writes {
		t.Error(h.Writes(), writes)
	}
}

// P12.1, P12.4: All refuses pairs one of which has a place that is no cell's: the first of these is told, ahead of whether the others can be made one; nothing has changed.
func TestAllRefuses(t *testing.T) {
	h, m := mixed(t)
	writes := h.Writes()
	all := m.cells()
	can := func(one, other int) bool {
		g := m.graph(all)
		_, is := solved(g, rooted([][2]int{{one, other}}, all, g))
		return is
	}
	// A pair that could be made one with writes, a pair that can't be, and one that is.
	var some, never [2]int
	for _, one := range all {
		for _, other := range all {
			switch is := can(one, other); {
			case !is:
				never = [2]int{one, other}
			case m.held(one) != m.held(other):
				some = [2]int{one, other}
			}
		}
	}
	same := [2]int{all[0], all[0]}
	if some == never || can(never[0], never[1]) {
		t.Fatal(some, never)
	}
	for _, row := range [][][2]int{{some, some, some, some}, {never, never, never, never}, {same, some, never, same}, {never, some, same, never}} {
		for at := range row {
			for which := range 2 {
				for _, bad := range strangePlaces(m) {
					pairs := slices.Clone(row)
					pairs[at][which] = bad
					wantRefused(t, h, pairs, at, which)
					// A pair behind it makes no difference; nor does the other of the two, if it is the second.
					if at+1 < len(pairs) {
						pairs[at+1] = [2]int{-1, -1}
						wantRefused(t, h, pairs, at, which)
					}
					pairs[at][1] = bad
					wantRefused(t, h, pairs, at, which)
					wantRefused(t, h, pairs[at:], 0, which)
				}
			}
		}
	}
	wantSame(t, "refused", h.Dump(), m.Dump)
	if h.Writes() != writes {
		t.Error(h.Writes(), writes)
	}
	// Far behind.
	far := append(slices.Repeat([][2]int{some, never}, 50000), [2]int{all[0], -1})
	wantRefused(t, h, far, 100000, 1)
	wantSame(t, "refused", h.Dump(), m.Dump)
}

func wantRefused(t *testing.T, h *cells.Heap, pairs [][2]int, at, which int) {
	t.Helper()
	if ok, err := unify.All(h, pairs); ok || !isRefusal(err, at, which) {
		t.Fatalf("All of %d pairs: %v, %v, want it refused at %d by %d", len(pairs), ok, err, at, which)
	}
}

// P12.1, P12.4: what is refused once is refused again; what was a functor's place is one still behind a call that is taken.
func TestRefusedAgain(t *testing.T) {
	h, r := holding(t, "f(1) a: 0", "f(1) X: 0")
	for range 3 {
		if ok, err := unify.Unify(h, r[0], r[0]+1); ok || !isRefusal(err, 1, 1) {
			t.Fatal(ok, err)
		}
		if ok, err := unify.Unify(h, r[1]+1, r[0]); ok || !isRefusal(err, 0, 0) {
			t.Fatal(ok, err)
		}
		if ok, err := unify.Unify(h, r[0], r[1]); !ok || err != nil {
			t.Fatal(ok, err)
		}
	}
	if tagOf(h.Dump().Words[r[1]+1]) != tagFwd {
		t.Error(laid(h.Dump()))
	}
	// A place that is given back is no cell's.
	h.Point()
	x := put(t, h, made("a: 0"))
	done(t, h.Undo(0))
	if ok, err := unify.Unify(h, r[0], x[0]); ok || !isRefusal(err, 1, 1) {
		t.Error(ok, err)
	}
}

// P12.1: All of no pairs is true, and changes nothing.
func TestNoPairs(t *testing.T) {
	h, m := mixed(t)
	writes := h.Writes()
	for _, pairs := range [][][2]int{nil, {}, make([][2]int, 0, 5)} {
		if ok, err := unify.All(h, pairs); !ok || err != nil || h.Writes() != writes {
			t.Error(ok, err, h.Writes())
		}
		wantSame(t, "no pairs", h.Dump(), m.Dump)
		if ok, err := unify.All(heap(t, 1), pairs); !ok || err != nil {
			t.Error(ok, err)
		}
	}
}

// P12.1: in a heap with nothing in it no place is a cell's.
func TestEmptyHeap(t *testing.T) {
	h := heap(t, 5)
	for _, at := range []int{0, 1, -1, 4, 5, math.MaxInt, math.MinInt} {
		if ok, err := unify.Unify(h, at, 0); ok || !isRefusal(err, 0, 0) {
			t.Error(ok, err)
		}
		wantRefused(t, h, [][2]int{{0, at}}, 0, 0)
	}
	if got := laid(h.Dump()); got != " |  |  | " {
		t.Error(got)
	}
}

// R7: a nil heap answers ErrNil, ahead of all else.
func TestNilHeap(t *testing.T) {
	for _, pair := range [][2]int{{0, 0}, {0, 1}, {-1, 0}, {0, -1}, {-1, -1}, {math.MaxInt, math.MinInt}} {
		if ok, err := unify.Unify(nil, pair[0], pair[1]); ok || !isNil(err) {
			t.Error(ok, err)
		}
		for _, pairs := range [][][2]int{nil, {}, {pair}, {pair, pair, {7, 7}}} {
			if ok, err := unify.All(nil, pairs); ok || !isNil(err) {
				t.Error(ok, err)
			}
		}
	}
}
