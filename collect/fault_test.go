package collect_test

import (
	"math"
	"slices"
	"testing"

	"tendril/api"
	"tendril/collect"
	"tendril/store"
)

// wantRefused stops the test unless both calls refuse the roots by the one of this number, and change nothing.
func wantRefused(t *testing.T, s *store.Store, roots []int, at int) {
	t.Helper()
	before := laid(s.Dump())
	if count, err := collect.Count(s, roots); count != 0 || !isStrange(err, at) {
		t.Fatalf("Count(%v): %d, %v, want it refused at %d", roots, count, err, at)
	}
	if now := laid(s.Dump()); now != before {
		t.Fatalf("Count(%v): the store is\n%s, and was\n%s", roots, now, before)
	}
	if places, err := collect.Run(s, roots); len(places) > 0 || !isStrange(err, at) {
		t.Fatalf("Run(%v): %v, %v, want it refused at %d", roots, places, err, at)
	}
	if now := laid(s.Dump()); now != before {
		t.Fatalf("Run(%v): the store is\n%s, and was\n%s", roots, now, before)
	}
}

// R7: Count of a nil store is that of an empty one; Run of it is ErrNil, ahead of all other errors.
func TestNilStore(t *testing.T) {
	var none *store.Store
	for _, s := range []*store.Store{none, empty(t, manyWords)} {
		for _, roots := range [][]int{nil, {}} {
			if count, err := collect.Count(s, roots); count != 0 || err != nil {
				t.Errorf("Count(%v): %d, %v", roots, count, err)
			}
		}
		for _, roots := range [][]int{{0}, {-1}, {0, 0}, {math.MaxInt}, {math.MinInt, 0}, {65535}} {
			if count, err := collect.Count(s, roots); count != 0 || !isStrange(err, 0) {
				t.Errorf("Count(%v): %d, %v", roots, count, err)
			}
		}
	}
	for _, roots := range [][]int{nil, {}, {0}, {-1}, {0, 1, 2}, {math.MaxInt}} {
		if places, err := collect.Run(none, roots); len(places) > 0 || !isFault(err, errNil, -1) {
			t.Errorf("Run(%v): %v, %v", roots, places, err)
		}
	}
}

// mixed is a store with words of each kind, two points, a trail, and disequalities that are open, now and at the points.
func mixed(t *testing.T) (*store.Store, []int) {
	t.Helper()
	s, r := holding(t, "f(1,2) a X f(4,5) Y 7 Z")
	play(t, s, r, "4#5 2#6", "tt")
	point(t, s, 0)
	put(t, s, made("k(1) j: 0 1"))
	play(t, s, r, "6#4 6#0", "tt")
	point(t, s, 1)
	play(t, s, r, "4=1 2=5 0=3", "ttt")
	m := dumped(s)
	tags := map[int]int{}
	for _, w := range m.Words {
		tags[tagOf(w)]++
	}
	for tag := tagRef; tag <= tagFwd; tag++ {
		if tags[tag] == 0 {
			t.Fatalf("no word of the tag %d: %s", tag, laid(m.Dump))
		}
	}
	if len(m.Trail) == 0 || len(m.Marks) != 2 || len(m.Marks[0].Difs) != 2 || len(m.Marks[1].Difs) != 4 || len(m.Difs) != 3 {
		t.Fatal(laid(m.Dump))
	}
	return s, r
}

// P15.1: roots that are no cells, as the first, as one in the middle, as the last and as several, are refused by the first of them; nothing has changed.
func TestStrangeRoots(t *testing.T) {
	plain, _ := holding(t, "f(1,2) a X f(4,5) Y 7 Z")
	laden, _ := mixed(t)
	for _, s := range []*store.Store{plain, laden} {
		m := dumped(s)
		good := m.cells()
		for _, bad := range append(m.strangers(), s.Max()-1, s.Max(), manyWords-1, manyWords, 1<<32, math.MaxInt, math.MinInt) {
			wantRefused(t, s, []int{bad}, 0)
			wantRefused(t, s, []int{bad, bad}, 0)
			for at := range good {
				wantRefused(t, s, slices.Insert(slices.Clone(good), at, bad), at)
			}
			wantRefused(t, s, append(slices.Clone(good), bad), len(good))
			wantRefused(t, s, []int{good[0], bad, good[1], bad}, 1)
			wantRefused(t, s, []int{good[0], good[1], bad, -1}, 2)
			wantRefused(t, s, []int{good[0], -1, bad}, 1)
		}
		// All cells together are taken.
		wantCount(t, s, good, len(m.wanted(good)))
	}
}

// P15.1: in an empty store nothing is a cell.
func TestNoCells(t *testing.T) {
	s := empty(t, 5)
	for _, bad := range []int{-1, 0, 1, 4, 5, 6} {
		wantRefused(t, s, []int{bad}, 0)
	}
	put(t, s, made("a"))
	wantRefused(t, s, []int{0, 1}, 1)
	wantCount(t, s, []int{0}, 1)
}

// P15.1: a place that was a cell's is none any more behind Undo, behind a forward and behind Run; and is one again.
func TestNoLongerCells(t *testing.T) {
	s, _ := holding(t, "X")
	point(t, s, 0)
	x := put(t, s, made("a"))
	wantCount(t, s, x, 1)
	done(t, s.Undo(0))
	wantRefused(t, s, []int{0, x[0]}, 1)

	put(t, s, made("b"))
	places := run(t, s, x)
	if !slices.Equal(places, []int{0}) {
		t.Fatal(places)
	}
	wantRefused(t, s, x, 0)
	wantRefused(t, s, []int{0, 1}, 1)
	done(t, s.Undo(0))
	wantRefused(t, s, []int{0}, 0)
	put(t, s, made("c"))
	wantCount(t, s, []int{0}, 1)
}

// P15.1: more roots than a graph may have are taken.
func TestManyRoots(t *testing.T) {
	s, r := holding(t, "a X f(1)")
	for _, count := range []int{manyNodes, manyNodes + 1, manyWords + 1, 200000} {
		roots := slices.Repeat(r[1:2], count)
		wantCount(t, s, roots, 2)
		roots[count-1] = r[2]
		wantCount(t, s, roots, 5)
		roots[count-1] = -1
		wantRefused(t, s, roots, count-1)
	}
	roots := slices.Repeat(r[1:], manyNodes)
	places, err := collect.Run(s, roots)
	if err != nil || !slices.Equal(places, slices.Repeat([]int{0, 1}, manyNodes)) || s.Top() != 5 {
		t.Error(len(places), err, s.Top())
	}
}

// R2: each fault is one of its own, with a cause of its own.
func TestFaultsAreTheirOwn(t *testing.T) {
	s, r := mixed(t)
	over := func(err error) {
		f := err.(*api.Fault)
		if cause, ok := f.Cause.(*api.Fault); ok {
			*cause = api.Fault{Code: 7, At: 7, Name: "over"}
		}
		*f = api.Fault{Code: 7, At: 7, Name: "over"}
	}
	for range 3 {
		_, err := collect.Count(s, []int{r[0], -1})
		if !isStrange(err, 1) {
			t.Fatal(err)
		}
		over(err)
		if _, err = collect.Run(s, []int{-1, r[0]}); !isStrange(err, 0) {
			t.Fatal(err)
		}
		over(err)
		if _, err = collect.Run(nil, nil); !isFault(err, errNil, -1) {
			t.Fatal(err)
		}
		over(err)
	}
}
