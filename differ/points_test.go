package differ_test

import (
	"slices"
	"strings"
	"testing"

	"tendril/api"
	"tendril/cells"
	"tendril/differ"
	"tendril/unify"
)

// P13.1: terms that were bound, merged and forwarded before, and again behind Undo.
func TestBefore(t *testing.T) {
	h, r := holding(t, "f(1) a: 0", "f(1) b: 0", "f(1) X: 0 1", "Y Z: 0 1")
	place := func(root int) int {
		x, err := h.Look(r[root])
		done(t, err)
		return x.At
	}
	x, y, z := place(3), place(4), place(5)
	p, err := h.Point()
	done(t, err)
	start := h.Dump()
	apart, same := api.Verdict{Kind: isApart}, api.Verdict{Kind: isSame}
	hangs := func(vars ...int) api.Verdict { return api.Verdict{Kind: isOpen, Vars: vars} }
	atFirst := func() {
		t.Helper()
		wantSame(t, "undone", h.Dump(), start)
		wantLook(t, "f(a) and f(b)", h, r[0], r[1], apart)
		wantLook(t, "f(a) and f(X)", h, r[0], r[2], hangs(x))
		wantLook(t, "f(b) and f(X)", h, r[1], r[2], hangs(x))
		wantLook(t, "X and Z", h, r[3], r[5], hangs(x, z))
		wantLook(t, "Y and Z", h, r[4], r[5], hangs(y, z))
	}
	atFirst()
	// As merged, the second is f(a).
	done(t, h.Merge(r[1], r[0]))
	wantLook(t, "f(a) and f(b), merged", h, r[0], r[1], same)
	wantLook(t, "f(b), merged, and f(X)", h, r[1], r[2], hangs(x))
	// So is the third, when it is made one with it.
	if ok, err := unify.Unify(h, r[2], r[1]); !ok || err != nil {
		t.Fatal(ok, err)
	}
	wantLook(t, "f(b), merged, and f(X)", h, r[1], r[2], same)
	wantLook(t, "X and Y", h, r[3], r[4], hangs(y))
	done(t, h.Undo(p))
	atFirst()
	// The third is forwarded to the second, which can't be the first; X is still free, but in neither of them.
	done(t, h.Merge(r[2], r[1]))
	wantLook(t, "f(a) and f(X), merged", h, r[0], r[2], apart)
	wantLook(t, "f(b) and f(X), merged", h, r[1], r[2], same)
	wantLook(t, "X and Z", h, r[3], r[5], hangs(x, z))
	// A variable that leads to another, that leads to a compound that is forwarded.
	done(t, h.Bind(r[5], r[4]))
	wantLook(t, "Y and Z, bound", h, r[4], r[5], same)
	wantLook(t, "X and Z, bound", h, r[3], r[5], hangs(x, y))
	done(t, h.Bind(r[4], r[2]))
	wantLook(t, "Z, bound, and f(a)", h, r[5], r[0], apart)
	wantLook(t, "Z, bound, and f(b)", h, r[5], r[1], same)
	wantLook(t, "Z, bound, and X", h, r[5], r[3], hangs(x))
	wantLook(t, "its place, and X's", h, z, x, hangs(x))
	done(t, h.Undo(p))
	atFirst()
	// X becomes what holds it.
	done(t, h.Bind(r[3], r[2]))
	wantLook(t, "X and f(X)", h, r[3], r[2], same)
	wantLook(t, "f(a) and f(X)", h, r[0], r[2], apart)
	wantLook(t, "Y and X", h, r[4], r[3], hangs(y))
	done(t, h.Undo(p))
	atFirst()
}

// do does one thing to a heap: terms are put down, a point is made, gone back to or released, or cells of a list are bound, merged or made one. It answers the list, with the roots' cells of what was put down.
func do(t *testing.T, h *cells.Heap, all []int, s string) []int {
	t.Helper()
	what, rest, _ := strings.Cut(s, " ")
	two := func() (int, int) {
		pair := paired(rest)[0]
		return all[pair[0]], all[pair[1]]
	}
	switch what {
	case "point":
		h.Point()
	case "undo":
		done(t, h.Undo(number(rest)))
		gone := func(at int) bool { return at >= h.Top() }
		all = slices.DeleteFunc(slices.Clone(all), gone)
	case "release":
		done(t, h.Release(number(rest)))
	case "bind":
		done(t, h.Bind(two()))
	case "merge":
		done(t, h.Merge(two()))
	case "make":
		one, other := two()
		_, err := unify.Unify(h, one, other)
		done(t, err)
	default:
		all = slices.Concat(all, put(t, h, made(s)))
	}
	return all
}

// play does a row of things to a new heap.
func play(t *testing.T, row string) (*cells.Heap, []int) {
	t.Helper()
	h := heap(t, 200)
	var all []int
	for s := range strings.SplitSeq(row, " | ") {
		all = do(t, h, all, s)
	}
	return h, all
}

// P13.1: with no point, with points, with places below and above the newest point's Top, with a trail that a point still asks for, and with one that none does: behind each Look and each Still all is as it was, and Undo gives back what was there at the point.
func TestPoints(t *testing.T) {
	for _, row := range []string{
		"X: 0 | Y: 0 | f(1) Z: 0 1 | f(1) a: 0",
		"X: 0 | Y: 0 | f(1) Z: 0 1 | f(1) a: 0 | point",
		"X: 0 | point | Y: 0 | f(1) Z: 0 1 | f(1) a: 0",
		"X: 0 | point | Y: 0 | point | f(1) Z: 0 1 | point | f(1) a: 0",
		"f(1) a: 0 | point | f(1) Z: 0 1 | point | point | X: 0 | Y: 0",
		"point | X: 0 | Y: 0 | f(1) Z: 0 1 | f(1) a: 0",
		"point | point | point | X: 0 | f(1) X: 0 1",
		// With a trail.
		"X Y Z: 0 1 2 | f(1) U: 0 1 | point | bind 1-0 | f(1) a: 0",
		"X Y Z: 0 1 2 | f(1) U: 0 1 | point | bind 1-3 | point | f(1) a: 0",
		"X Y Z: 0 1 2 | f(1) U: 0 1 | f(1) a: 0 | point | merge 3-5 | point | bind 2-5",
		"X Y Z: 0 1 2 | f(1) U: 0 1 | f(1) V: 0 1 | point | make 3-5 | point | make 0-3",
		// Points that are gone, with what was trailed for them.
		"X Y Z: 0 1 2 | point | bind 1-0 | release 0 | f(1) U: 0 1",
		"X Y Z: 0 1 2 | point | bind 1-0 | release 0 | point | f(1) a: 0 | bind 2-3",
		"X Y Z: 0 1 2 | point | bind 1-0 | point | bind 2-0 | release 1 | f(1) U: 0 1",
		"X Y Z: 0 1 2 | point | f(1) a: 0 | point | make 0-3 | undo 1 | make 1-3",
		"X Y Z: 0 1 2 | point | f(1) a: 0 | bind 0-3 | bind 1-3 | undo 0 | f(1) U: 0 1 | f(1) b: 0 | make 3-5",
	} {
		build := func() *cells.Heap {
			h, _ := play(t, row)
			return h
		}
		m := open(build())
		for _, one := range m.cells() {
			for _, other := range m.cells() {
				wantVerdict(t, build, one, other)
			}
		}
		for _, at := range m.cells() {
			wantStill(t, build(), []int{at}, m.free(at))
		}
	}
}

// P13.1: what was looked at can be bound and undone as if nobody had looked, in each row of these.
func TestLookBetween(t *testing.T) {
	const row = "f(1,2) X Y: 0 1 2 | f(1,1) Z: 0 1 | f(1,2) a b: 0 | point"
	steps := []string{"make 0-3", "make 0-5", "make 3-5", "point", "make 1-2", "merge 0-3", "undo 0", "make 4-0", "X f(0): 0 1"}
	all := paired("0-3 0-5 3-5 1-2 1-4 4-0 2-5")
	for _, first := range steps {
		for _, second := range steps {
			plain, _ := play(t, row+" | "+first+" | "+second)
			h, r := play(t, row)
			look := func() {
				for _, two := range all {
					wantLook(t, first+", "+second, h, r[two[0]], r[two[1]], open(h).verdict(r[two[0]], r[two[1]]))
				}
			}
			for _, s := range []string{first, second} {
				look()
				do(t, h, r, s)
			}
			look()
			wantSame(t, first+", "+second, h.Dump(), plain.Dump())
			done(t, plain.Undo(0))
			done(t, h.Undo(0))
			wantSame(t, first+", "+second+": undone", h.Dump(), plain.Dump())
		}
	}
}

// slid is a heap in which a graph was put down, without its roots' cells: so what is met first stands at the place 0.
func slid(t *testing.T, s string) *cells.Heap {
	t.Helper()
	h := heap(t, 100)
	roots := put(t, h, made(s))
	keep := slices.Repeat([]bool{true}, h.Top())
	for _, at := range roots {
		keep[at] = false
	}
	_, err := h.Slide(keep)
	done(t, err)
	return h
}

// P13.1: a variable and a compound at the place 0, with themselves, with what holds them, and with all else.
func TestPlaceZero(t *testing.T) {
	zero := 0
	for _, s := range []string{"X: 0", "X f(0) Y: 0 1 2", "f(0): 0", "f(0,1) X: 0", "f(1,1) f(2,2) f(0,0): 0", "f(1) X f(0): 0 2", "X f(0,0) a f(0,2) f(2,4): 0 1 2 3 4", "f(1) f(0) g(0) f(2): 0 1 2 3"} {
		build := func() *cells.Heap { return slid(t, s) }
		m := open(build())
		for _, one := range m.cells() {
			for _, other := range m.cells() {
				if got := wantVerdict(t, build, one, other); slices.Contains(got.Vars, 0) {
					zero++
				}
			}
			wantStill(t, build(), []int{one}, m.free(one))
		}
	}
	if zero < 20 {
		t.Errorf("the place 0 hangs %d times", zero)
	}
}

// P13.1: neither call allocates words: they answer where there is no room for one.
func TestNoRoom(t *testing.T) {
	g := made("f(1,2) X g(0) f(4,5) g(3) Y: 0 3 1 5")
	want, err := heap(t, 100).Need(g)
	done(t, err)
	for points := range 3 {
		h := heap(t, want)
		r := put(t, h, g)
		for range points {
			h.Point()
		}
		x, err := h.Look(r[2])
		done(t, err)
		y, err := h.Look(r[3])
		done(t, err)
		wantLook(t, "full", h, r[0], r[1], api.Verdict{Kind: isOpen, Vars: []int{x.At, y.At}})
		if h.Top() != want || h.Points() != points {
			t.Error(h.Top(), h.Points())
		}
	}
}

// P13.1: with many points a look is but one more.
func TestManyPoints(t *testing.T) {
	h, r := holding(t, "X Y: 0 1")
	for i := range 100000 {
		if p, err := h.Point(); p != i || err != nil {
			t.Fatal(p, err)
		}
	}
	wantLook(t, "X and Y", h, r[0], r[1], api.Verdict{Kind: isOpen, Vars: []int{2, 3}})
	for range 1000 {
		if _, err := differ.Look(h, r[1], r[0]); err != nil || h.Points() != 100000 {
			t.Fatal(err, h.Points())
		}
	}
}

// P13.1: a look at what is open makes writes and takes them back: Writes grows by no more than there are words reachable; Still makes none.
func TestWrites(t *testing.T) {
	for _, s := range []string{"X a: 0 1", "X Y: 0 1", "f(2,3) f(3,4) X Y a: 0 1", "X f(0): 0 1"} {
		h, r := holding(t, s)
		reach, err := h.Reach(r...)
		done(t, err)
		x, err := differ.Look(h, r[0], r[1])
		if writes := h.Writes(); err != nil || writes < 1 || writes > reach {
			t.Errorf("%s: %d writes, %v", s, writes, err)
		}
		wantStill(t, h, x.Vars, true)
	}
}
