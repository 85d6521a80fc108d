package collect_test

import (
	"slices"
	"testing"
	"time"

	"tendril/api"
	"tendril/collect"
	"tendril/store"
)

// doubled is f(n, f(n, .. )) with so many parts, which ends in the node n; each n is a node of its own.
func doubled(count int, n api.Node) api.Graph {
	g := api.Graph{Roots: []int{0}}
	for i := range count / 2 {
		g.Nodes = append(g.Nodes, c("f", 2*i+1, 2*i+2), n)
	}
	g.Nodes = append(g.Nodes, n)
	return g
}

// row is f(a, f(a, .. )) with so many compounds; it ends in a variable, which is the second root.
func row(count int) api.Graph {
	g := api.Graph{Roots: []int{0, count}}
	for i := range count {
		g.Nodes = append(g.Nodes, c("f", count+1, i+1))
	}
	g.Nodes = append(g.Nodes, v(), a("a"))
	return g
}

// quick stops the test if something takes far longer than it should.
func quick(t *testing.T, what string, most time.Duration, do func()) {
	t.Helper()
	begin := time.Now()
	do()
	if took := time.Since(begin); took > most {
		t.Errorf("%s took %v", what, took)
	}
}

// compacted is the places of roots behind a Run, of which it is asked that it leaves so many words.
func compacted(t *testing.T, s *store.Store, roots []int, want int) []int {
	t.Helper()
	if count, err := collect.Count(s, roots); count != want || err != nil {
		t.Fatalf("Count: %d, %v, want %d", count, err, want)
	}
	places, err := collect.Run(s, roots)
	if err != nil || len(places) != len(roots) || s.Top() != want {
		t.Fatalf("Run: %d, %v, %d words, want %d", len(places), err, s.Top(), want)
	}
	return places
}

// P15.1, P15.4: a term of tens of thousands of parts within one another, each reached from the one ahead of it, in a store that is full.
func TestDeep(t *testing.T) {
	s := empty(t, manyWords)
	// Each part wants 2 cells, 3 words for each compound and one for the variable.
	const parts, each = 5, 4000
	var r []int
	for range parts {
		r = append(r, put(t, s, row(each))...)
	}
	for i := 1; i < parts; i++ {
		if ok, err := s.Tell(r[2*i-1], r[2*i]); !ok || err != nil {
			t.Fatal(ok, err)
		}
	}
	if ok, err := s.Tell(r[len(r)-1], r[0]); !ok || err != nil {
		t.Fatal(ok, err)
	}
	junk := s.Max() - s.Top()
	for range junk {
		put(t, s, made("b"))
	}
	quick(t, "Run", 20*time.Second, func() {
		// Of the cells only the one that is asked for stays; the variables lead from part to part, and back to the first.
		places := compacted(t, s, r[:1], 1+parts*(3*each+1))
		again := compacted(t, s, places, 1+parts*(3*each+1))
		if !slices.Equal(places, []int{0}) || !slices.Equal(again, places) {
			t.Error(places, again)
		}
	})
	cell, err := s.Look(0)
	if err != nil || cell.Kind != kComp || len(cell.Args) != 2 {
		t.Fatal(cell, err)
	}
	compacted(t, s, nil, 0)
}

// P15.1, P15.2: a trail of thousands of words, of which each reaches what is reached from nowhere else.
func TestLongTrail(t *testing.T) {
	s := empty(t, manyWords)
	const each = 4000
	one, other := put(t, s, row(each)), put(t, s, row(each))
	below := s.Top()
	point(t, s, 0)
	junk := put(t, s, row(each))
	if ok, err := s.Tell(one[0], other[0]); !ok || err != nil {
		t.Fatal(ok, err)
	}
	if trail := len(s.Dump().Trail); trail != each+1 {
		t.Fatal(trail)
	}
	if count, err := collect.Count(s, one[:1]); count != 1+3*each+1 || err != nil {
		t.Fatal(count, err)
	}
	quick(t, "Run", 20*time.Second, func() {
		other = compacted(t, s, other[:1], below-3)
		other = compacted(t, s, other, below-3)
	})
	if s.Cell(junk[0]) {
		t.Error("what nothing leads to is there")
	}
	done(t, s.Undo(0))
	if s.Top() != below-3 {
		t.Error(s.Top())
	}
	// The two are two terms again, of which the one is gone without the point.
	done(t, s.Release(0))
	compacted(t, s, other, 1+3*each+1)
}

// P15.1: many points, each with many disequalities.
func TestManyPoints(t *testing.T) {
	s := empty(t, manyWords)
	put(t, s, doubled(1000, a("b")))
	left, right := put(t, s, doubled(2000, v()))[0], put(t, s, doubled(2000, a("a")))[0]
	for p := range 500 {
		if p < manyDifs {
			if ok, err := s.Differ(left, right); !ok || err != nil {
				t.Fatal(ok, err)
			}
		}
		point(t, s, p)
	}
	quick(t, "Run", 20*time.Second, func() {
		left = compacted(t, s, []int{left}, 2+2*3*1000+1001)[0]
	})
	for _, p := range []int{499, 300, 255, 100, 0} {
		done(t, s.Undo(p))
		difs := s.Difs()
		if len(difs) != min(p+1, manyDifs) || difs[0][0] != left || slices.ContainsFunc(difs, func(pair [2]int) bool { return pair != difs[0] }) {
			t.Fatalf("%d: %v", p, difs)
		}
		if ok, err := s.Tell(difs[0][0], difs[0][1]); ok || err != nil {
			t.Fatal(ok, err)
		}
	}
	done(t, s.Release(0))
	compacted(t, s, nil, 2+2*3*1000+1001)
}

// P15.1: a store that is filled and compacted again and again.
func TestAgainAndAgain(t *testing.T) {
	s := empty(t, 3100)
	r := put(t, s, made("X f(0,1)"))
	quick(t, "filling", 30*time.Second, func() {
		for range 300 {
			for range 5 {
				put(t, s, doubled(300, v()))
			}
			r = compacted(t, s, r, 6)
			wantGet(t, s, r, "X f(0,1)")
		}
	})
}
