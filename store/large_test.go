package store_test

import (
	"runtime"
	"slices"
	"testing"
	"time"

	"tendril/api"
	"tendril/store"
)

// doubled is f(n, f(n, .. )) with so many parts, which ends in the node n; each n is a node of its own.
func doubled(count int, n api.Node) api.Graph {
	g := api.Graph{Roots: []int{0}}
	for i := range count / 2 {
		g.Nodes = append(g.Nodes, c("f", 2*i+1, 2*i+2), n)
	}
	g.Nodes = append(g.Nodes, n)
	return g
}

// quick stops the test if something takes far longer than it should.
func quick(t *testing.T, what string, most time.Duration, do func()) {
	t.Helper()
	begin := time.Now()
	do()
	if took := time.Since(begin); took > most {
		t.Errorf("%s took %v", what, took)
	}
}

// P14.1, P14.3: a disequality of two terms as great as they may be, on thousands of variables, of which one after the other is bound: it is open to the last, and then barred; or it ceases with the first that is another.
func TestLarge(t *testing.T) {
	s := empty(t, manyWords)
	left := put(t, s, doubled(2000, v()))
	right := put(t, s, doubled(2000, a("a")))
	other := put(t, s, made("a b"))
	if ok, err := s.Differ(left[0], right[0]); !ok || err != nil {
		t.Fatal(ok, err)
	}
	wantSound(t, s)
	point(t, s, 0)
	if ok, err := s.Tell(left[0], right[0]); ok || err != nil {
		t.Fatal(ok, err)
	}
	var free []int
	m := dumped(s)
	for _, at := range m.cells() {
		if m.held(at) == (thing{kVar, at}) {
			free = append(free, at)
		}
	}
	if len(free) != 1001 {
		t.Fatal(len(free))
	}
	for i, at := range free {
		last := i == len(free)-1
		ok, err := s.Tell(at, other[0])
		if ok == last || err != nil || len(s.Difs()) != 1 {
			t.Fatal(i, ok, err)
		}
	}
	if ok, err := s.Tell(free[1000], other[1]); !ok || err != nil || len(s.Difs()) != 0 {
		t.Fatal(ok, err)
	}
	done(t, s.Undo(0))
	if ok, err := s.Tell(free[500], other[1]); !ok || err != nil || len(s.Difs()) != 0 {
		t.Fatal(ok, err)
	}
	done(t, s.Undo(0))
	wantSound(t, s)
	if len(s.Difs()) != 1 {
		t.Fatal(s.Difs())
	}
}

// P14.1: a disequality sleeps: what binds none of its variables doesn't look at it, however great its terms are.
func TestSleeps(t *testing.T) {
	s := empty(t, manyWords)
	left, right := put(t, s, made("X")), put(t, s, doubled(4000, a("a")))
	var cells []int
	for range 3000 {
		cells = append(cells, put(t, s, made("Y"))...)
	}
	for range manyDifs {
		if ok, err := s.Differ(left[0], right[0]); !ok || err != nil {
			t.Fatal(ok, err)
		}
	}
	// A look at each of them at each Tell would take minutes.
	quick(t, "Tell", 30*time.Second, func() {
		for i := range len(cells) - 1 {
			if ok, err := s.Tell(cells[i], cells[i+1]); !ok || err != nil {
				t.Fatal(ok, err)
			}
		}
	})
	if len(s.Difs()) != manyDifs {
		t.Error(len(s.Difs()))
	}
	if ok, err := s.Tell(left[0], right[0]); ok || err != nil {
		t.Fatal(ok, err)
	}
}

// P14.1: circles of thousands of parts.
func TestLargeCircles(t *testing.T) {
	s := empty(t, manyWords)
	circle := func(count int) int {
		g := api.Graph{Roots: []int{0}}
		for i := range count {
			g.Nodes = append(g.Nodes, c("f", (i+1)%count))
		}
		return put(t, s, g)[0]
	}
	x := put(t, s, made("X f(0) f(1)"))
	one, other := circle(most), circle(most-1)
	if ok, err := s.Differ(one, other); ok || err != nil {
		t.Fatal(ok, err)
	}
	if ok, err := s.Differ(x[0], one); !ok || err != nil {
		t.Fatal(ok, err)
	}
	for _, at := range []int{other, x[1], x[2]} {
		if ok, err := s.Tell(x[0], at); ok || err != nil {
			t.Fatal(at, ok, err)
		}
	}
	if got := s.Difs(); !slices.Equal(got, [][2]int{{x[0], one}}) {
		t.Error(got)
	}
}

// P14.1: many points, each with as many disequalities as may be, on many variables: a Slide tells each of them anew, and keeps no more than there was.
func TestSlideManyPoints(t *testing.T) {
	s := empty(t, manyWords)
	junk := put(t, s, made("a b c"))
	left, right := put(t, s, doubled(2000, v()))[0], put(t, s, doubled(2000, a("a")))[0]
	for p := range 200 {
		if ok, err := s.Differ(left, right); !ok || err != nil {
			t.Fatal(ok, err)
		}
		point(t, s, p)
	}
	keep := slices.Repeat([]bool{true}, s.Top())
	for _, at := range junk {
		keep[at] = false
	}
	before := held()
	to, err := s.Slide(keep)
	done(t, err)
	left, right = to[left], to[right]
	to, keep = nil, nil
	if after := held(); after > before+8<<20 {
		t.Errorf("%d bytes more are held", after-before)
	}
	runtime.KeepAlive(s)
	wantPoints := func(p int) {
		t.Helper()
		if got := s.Difs(); !slices.Equal(got, slices.Repeat([][2]int{{left, right}}, p+1)) {
			t.Fatalf("%d: %s", p, pairsText(got))
		}
	}
	for _, p := range []int{199, 150, 100, 1, 0} {
		done(t, s.Undo(p))
		wantPoints(p)
		if ok, err := s.Tell(left, right); ok || err != nil {
			t.Fatal(ok, err)
		}
	}
	wantSound(t, s)
}

// P14.1: a store that is full takes Tells and Differs, which allocate nothing.
func TestFull(t *testing.T) {
	s := empty(t, 8)
	r := put(t, s, made("X Y a b f(2) : 0 1 2 3"))
	r = append(r, put(t, s, made("c d"))...)
	if s.Top() != s.Max() {
		t.Fatal(s.Top())
	}
	play(t, s, r, "0#2 0#1 1=2 0=2 0=3", "tttft")
	wantDifs(t, s, r, "")
	if _, err := s.Put(made("a")); !isCaused(err, errRoom, 1, errFull, 1) {
		t.Error(err)
	}
	point(t, s, 0)
	wantDifs(t, s, r, "")
}

// P1: calls end, and none panics, at scattered arguments of all kinds.
func TestAnyArguments(t *testing.T) {
	for seed := range 2000 {
		d := dice(seed + 1<<45)
		s := empty(t, 60)
		if seed%50 == 0 {
			s = nil
		}
		anything := func() int {
			return d.among([]int{-1 << 63, -1, 0, 1, 2, 3, 4, 5, 6, 7, 8, 9, 10, 59, 60, 65536, 1<<63 - 1})
		}
		for range 30 {
			scatteredCall(&d, s, anything)
			if s != nil {
				wantSound(t, s)
			}
		}
	}
}

// scatteredCall makes one of all calls.
func scatteredCall(d *dice, s *store.Store, anything func() int) {
	switch d.below(16) {
	case 0:
		s.Put(d.graph(5))
	case 1:
		g := d.graph(5)
		g.Nodes[d.below(len(g.Nodes))] = api.Node{Kind: anything(), Num: anything(), Args: []int{anything()}}
		s.Put(g)
	case 2:
		s.Get(anything(), anything())
	case 3:
		s.Cell(anything())
		s.Look(anything())
	case 4:
		s.Reach(anything(), anything())
	case 5:
		s.Point()
	case 6:
		s.Undo(anything())
	case 7:
		s.Release(anything())
	case 8:
		s.Slide(make([]bool, d.below(61)))
	case 9:
		s.Slide(d.kept(dumped(s)))
	case 10:
		s.Max()
		s.Top()
		s.Points()
		s.Difs()
		s.Dump()
	case 11, 12:
		s.Tell(anything(), anything())
	default:
		s.Differ(anything(), anything())
	}
}
