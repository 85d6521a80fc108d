package store_test

import (
	"math"
	"slices"
	"testing"

	"tendril/api"
	"tendril/cells"
	"tendril/store"
)

// R7: a nil store answers as an empty one of the greatest size; what would change it is ErrNil, ahead of all other errors.
func TestNilStore(t *testing.T) {
	var s *store.Store
	other := empty(t, manyWords)
	for _, x := range []*store.Store{s, other} {
		if x.Max() != manyWords || x.Top() != 0 || x.Points() != 0 || len(x.Difs()) != 0 {
			t.Error(x.Max(), x.Top(), x.Points(), x.Difs())
		}
		if d := x.Dump(); !sameDump(d, api.Dump{}) {
			t.Error(laid(d))
		}
		for _, at := range []int{0, -1, 1, math.MaxInt, math.MinInt} {
			if x.Cell(at) {
				t.Errorf("Cell(%d)", at)
			}
			cell, err := x.Look(at)
			if cell.Kind != 0 || cell.At != 0 || cell.Name != "" || cell.Num != 0 || len(cell.Args) > 0 || !isFault(err, errCell, 0) {
				t.Errorf("Look(%d): %+v, %v", at, cell, err)
			}
			g, err := x.Get(at, 0)
			if len(g.Nodes)+len(g.Roots) > 0 || !isFault(err, errCell, 0) {
				t.Errorf("Get(%d): %s, %v", at, telling(g), err)
			}
			if count, err := x.Reach(at); count != 0 || !isFault(err, errCell, 0) {
				t.Errorf("Reach(%d): %d, %v", at, count, err)
			}
		}
		if g, err := x.Get(); len(g.Nodes)+len(g.Roots) > 0 || err != nil {
			t.Error(telling(g), err)
		}
		if count, err := x.Reach(); count != 0 || err != nil {
			t.Error(count, err)
		}
	}
	for _, g := range []api.Graph{{}, made("X"), made("f(9): 0"), made(": 4")} {
		if places, err := s.Put(g); len(places) > 0 || !isFault(err, errNil, -1) {
			t.Errorf("Put(%s): %v, %v", telling(g), places, err)
		}
	}
	for _, at := range []int{0, 1, -1, math.MaxInt} {
		for name, call := range map[string]func(a, b int) (bool, error){"Tell": s.Tell, "Differ": s.Differ} {
			if ok, err := call(at, 0); ok || !isFault(err, errNil, -1) {
				t.Errorf("%s: %v, %v", name, ok, err)
			}
		}
		for name, call := range map[string]func(n int) error{"Undo": s.Undo, "Release": s.Release} {
			if err := call(at); !isFault(err, errNil, -1) {
				t.Errorf("%s: %v", name, err)
			}
		}
	}
	for _, keep := range [][]bool{nil, {}, {true}, {false, false}} {
		if to, err := s.Slide(keep); len(to) > 0 || !isFault(err, errNil, -1) {
			t.Errorf("Slide%v: %v, %v", keep, to, err)
		}
	}
	if p, err := s.Point(); p != 0 || !isFault(err, errNil, -1) {
		t.Error(p, err)
	}
}

// P14.1: New refuses sizes as chapter 11 has it, and takes the least and the greatest.
func TestNew(t *testing.T) {
	for _, max := range []int{0, -1, manyWords + 1, math.MaxInt, math.MinInt} {
		s, err := store.New(max)
		if s != nil || !isCaused(err, errNew, max, errMax, max) {
			t.Errorf("New(%d): %v, %v", max, s, err)
		}
	}
	for _, max := range []int{1, 2, 100, manyWords - 1, manyWords} {
		s := empty(t, max)
		if s.Max() != max || s.Top() != 0 {
			t.Errorf("New(%d): %d, %d", max, s.Max(), s.Top())
		}
		wantLaid(t, s, " |  |  |  | ")
		r := put(t, s, made("a"))
		if s.Top() != 1 || len(r) != 1 || r[0] != 0 {
			t.Error(s.Top(), r)
		}
	}
}

// P14.1: Put, Get, Look and Reach refuse as chapter 11 has it.
func TestHeapRefuses(t *testing.T) {
	s, r := mixed(t)
	before := s.Dump()
	if places, err := s.Put(made("X f(9): 0 1")); len(places) > 0 || !isCaused(err, errPut, 1, errGraph, 1) {
		t.Error(places, err)
	}
	if places, err := s.Put(made("X: 1")); len(places) > 0 || !isCaused(err, errPut, 0, errRoot, 0) {
		t.Error(places, err)
	}
	wide := api.Graph{Nodes: []api.Node{v()}}
	for range 201 {
		wide.Roots = append(wide.Roots, 0)
	}
	if places, err := s.Put(wide); len(places) > 0 || !isCaused(err, errRoom, 202, errFull, 202) {
		t.Error(places, err)
	}
	m := dumped(s)
	for _, bad := range m.strangers() {
		if _, err := s.Get(r[0], bad, bad); !isFault(err, errCell, 1) {
			t.Errorf("Get(%d): %v", bad, err)
		}
		if _, err := s.Look(bad); !isFault(err, errCell, 0) {
			t.Errorf("Look(%d): %v", bad, err)
		}
		if _, err := s.Reach(r[0], r[1], bad); !isFault(err, errCell, 2) {
			t.Errorf("Reach(%d): %v", bad, err)
		}
		if s.Cell(bad) {
			t.Errorf("Cell(%d)", bad)
		}
	}
	many := slices.Repeat(r[:1], most+1)
	if _, err := s.Get(many...); !isFault(err, errLarge, most+1) {
		t.Error(err)
	}
	wantUnchanged(t, "refused", s, before)
}

// mixed is a store with words of each kind, a forward, two points, a trail, and disequalities that are open, now and at the points.
func mixed(t *testing.T) (*store.Store, []int) {
	t.Helper()
	s, r := holding(t, "f(1,2) a X f(4,5) Y 7 Z")
	play(t, s, r, "4#5 2#6", "tt")
	point(t, s, 0)
	play(t, s, r, "6#4 6#0", "tt")
	point(t, s, 1)
	play(t, s, r, "4=1 2=5 0=3", "ttt")
	wantDifs(t, s, r, "2-6 6-4 6-0")
	m := dumped(s)
	tags := map[int]int{}
	for _, w := range m.Words {
		tags[tagOf(w)]++
	}
	for tag := tagRef; tag <= tagFwd; tag++ {
		if tags[tag] == 0 {
			t.Fatalf("no word of the tag %d: %s", tag, laid(m.Dump))
		}
	}
	if len(m.Trail) == 0 || len(m.Marks) != 2 || len(m.Marks[0].Difs) != 2 || len(m.Marks[1].Difs) != 4 {
		t.Fatal(laid(m.Dump))
	}
	return s, r
}

// P14.1: Tell and Differ refuse places that are no cells', as the first, as the second and as both, as Get of the two does; nothing has changed.
func TestStrangePlaces(t *testing.T) {
	plain, _ := holding(t, "f(1,2) a X f(4,5) Y 7 Z")
	laden, _ := mixed(t)
	for _, s := range []*store.Store{plain, laden, empty(t, 10)} {
		m := dumped(s)
		refuses := func(one, other, at int) {
			t.Helper()
			if ok, err := s.Tell(one, other); ok || !isStrange(err, at) {
				t.Fatalf("Tell(%d, %d): %v, %v, want it refused at %d", one, other, ok, err, at)
			}
			if ok, err := s.Differ(one, other); ok || !isStrange(err, at) {
				t.Fatalf("Differ(%d, %d): %v, %v, want it refused at %d", one, other, ok, err, at)
			}
			if _, err := s.Get(one, other); !isFault(err, errCell, at) {
				t.Fatalf("Get(%d, %d): %v", one, other, err)
			}
			wantUnchanged(t, "refused", s, m.Dump)
		}
		bad := append(m.strangers(), len(m.Words)+100, manyWords-1, manyWords, manyWords+1, 1<<32, math.MaxInt, math.MinInt)
		for _, one := range bad {
			for _, at := range m.cells() {
				refuses(one, at, 0)
				refuses(at, one, 1)
			}
			for _, other := range bad {
				refuses(one, other, 0)
			}
		}
	}
}

// P14.1: a place that is given back is no cell's; one that is forwarded is none either; behind Undo they are what they were.
func TestStrangeAgain(t *testing.T) {
	s, r := holding(t, "X a")
	point(t, s, 0)
	x := put(t, s, made("Y"))
	play(t, s, []int{r[0], x[0]}, "0#1", "t")
	done(t, s.Undo(0))
	wantDifs(t, s, r, "")
	if ok, err := s.Differ(r[0], x[0]); ok || !isStrange(err, 1) {
		t.Error(ok, err)
	}
	if ok, err := s.Tell(x[0], r[0]); ok || !isStrange(err, 0) {
		t.Error(ok, err)
	}
	wantDifs(t, s, r, "")
}

// P14.1: Undo and Release refuse numbers of which there is no point; nothing has changed.
func TestNoPoint(t *testing.T) {
	s, _ := mixed(t)
	before := s.Dump()
	none := empty(t, 10)
	for _, p := range []int{-1, -2, 2, 3, 1 << 32, math.MaxInt, math.MinInt} {
		for _, x := range []*store.Store{s, none} {
			if err := x.Undo(p); !isFault(err, errPoint, p) {
				t.Errorf("Undo(%d): %v", p, err)
			}
			if err := x.Release(p); !isFault(err, errPoint, p) {
				t.Errorf("Release(%d): %v", p, err)
			}
		}
	}
	if err := none.Undo(0); !isFault(err, errPoint, 0) {
		t.Error(err)
	}
	wantUnchanged(t, "refused", s, before)
	wantLaid(t, none, " |  |  |  | ")
}

// The heap's calls that wake no disequality aren't the store's.
func TestNoBackDoor(t *testing.T) {
	var s any = empty(t, 10)
	if _, ok := s.(interface{ Bind(a, b int) error }); ok {
		t.Error("Bind")
	}
	if _, ok := s.(interface{ Merge(a, b int) error }); ok {
		t.Error("Merge")
	}
	if _, ok := s.(*cells.Heap); ok {
		t.Error("a heap")
	}
}
