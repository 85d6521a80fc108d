package differ_test

import (
	"slices"
	"testing"

	"tendril/api"
	"tendril/cells"
	"tendril/differ"
	"tendril/unify"
)

// census counts verdicts by their kinds.
type census [isOpen + 1]int

func (x *census) count(found api.Verdict) { x[found.Kind]++ }

// few tells whether there are fewer of one kind than there should be.
func (x *census) few(apart, same, open int) bool {
	return x[isApart] < apart || x[isSame] < same || x[isOpen] < open
}

// change does something to a heap: terms are put down, bound, merged or made one; points are made, gone back to, and released.
func (d *dice) change(h *cells.Heap) {
	m := open(h)
	all := m.cells()
	if len(all) == 0 {
		h.Put(d.graph(6))
		return
	}
	switch d.below(14) {
	case 0, 1, 2, 3:
		h.Put(d.graph(6))
	case 4, 5, 6:
		h.Point()
	case 7:
		h.Undo(d.below(h.Points() + 1))
	case 8:
		h.Release(d.below(h.Points() + 1))
	case 9, 10:
		h.Bind(d.holding(m, kVar), d.among(all))
	case 11, 12:
		h.Merge(d.holding(m, kComp), d.holding(m, kComp))
	default:
		unify.Unify(h, d.among(all), d.among(all))
	}
}

// holding is a cell that mostly holds a term of a kind.
func (d *dice) holding(m laidOpen, kind int) int {
	all := m.cells()
	for range 8 {
		if at := d.among(all); m.held(at).kind == kind {
			return at
		}
	}
	return d.among(all)
}

// ofOneFunctor is two cells that mostly hold compounds of one functor at two places.
func (d *dice) ofOneFunctor(m laidOpen) [2]int {
	pair := [2]int{d.holding(m, kComp), d.holding(m, kComp)}
	for range 20 {
		one, other := m.held(pair[0]), m.held(pair[1])
		if one.kind == kComp && other.kind == kComp && one != other && m.Words[one.value] == m.Words[other.value] {
			break
		}
		pair = [2]int{d.holding(m, kComp), d.holding(m, kComp)}
	}
	return pair
}

// scattered is a heap to which scattered things were done.
func scattered(t *testing.T, seed int) *cells.Heap {
	t.Helper()
	d := dice(seed)
	h := heap(t, 120)
	for range 4 + d.below(16) {
		d.change(h)
	}
	if h.Top() == 0 {
		put(t, h, made("f(1,0) X: 0 1"))
	}
	return h
}

// P13.1, P13.3: scattered cells of heaps to which scattered things were done.
func TestMany(t *testing.T) {
	var found census
	trails, points, several := 0, 0, 0
	for seed := range 4000 {
		build := func() *cells.Heap { return scattered(t, seed) }
		m := open(build())
		if len(m.Trail) > 0 {
			trails++
		}
		points += len(m.Marks)
		d := dice(seed + 1<<40)
		all := m.cells()
		pairs := [][2]int{d.ofOneFunctor(m), d.ofOneFunctor(m), d.ofOneFunctor(m)}
		for range 3 {
			pairs = append(pairs, [2]int{d.among(all), d.among(all)})
		}
		for _, pair := range pairs {
			x := wantVerdict(t, build, pair[0], pair[1])
			found.count(x)
			if len(x.Vars) > 2 {
				several++
			}
		}
	}
	if found.few(3000, 1000, 3000) || trails < 1000 || points < 3000 || several < 40 {
		t.Errorf("%v, with trails: %d, points: %d, with several variables: %d", found, trails, points, several)
	}
}

// twin is a graph some of whose nodes are variables instead, and now and then something else.
func (d *dice) twin(g api.Graph) api.Graph {
	out := api.Graph{Roots: g.Roots}
	for _, m := range g.Nodes {
		switch d.below(8) {
		case 0:
			m = v()
		case 1:
			m = d.node(len(g.Nodes))
		}
		out.Nodes = append(out.Nodes, m)
	}
	return out
}

// P13.1, P13.3: greater graphs of which two halves can often be made one; they have variables in common, since some of them were made one before.
func TestManyGreater(t *testing.T) {
	var found census
	several := 0
	for seed := range 1500 {
		d := dice(seed)
		g := d.graph(24)
		g.Nodes[g.Roots[0]] = c("f", d.below(len(g.Nodes)), d.below(len(g.Nodes)), d.below(len(g.Nodes)))
		twin, joined := d.twin(g), dice(seed+1<<41)
		build := func() *cells.Heap {
			h := heap(t, 500)
			put(t, h, g)
			if seed%2 == 0 {
				h.Point()
			}
			put(t, h, twin)
			d := joined
			m := open(h)
			for range 3 {
				h.Bind(d.holding(m, kVar), d.holding(m, kVar))
			}
			return h
		}
		second, err := build().Need(g)
		done(t, err)
		x := wantVerdict(t, build, 0, second)
		found.count(x)
		if len(x.Vars) > 3 {
			several++
		}
	}
	if found.few(300, 3, 300) || several < 100 {
		t.Errorf("%v, with several variables: %d", found, several)
	}
}

// P13.1, P13.3: all graphs of three nodes of some kinds, with all pairs of their nodes.
func TestAllSmall(t *testing.T) {
	kinds := nodes(v(), a("a"), a("b"), n(1))
	for i := range 3 {
		kinds = append(kinds, c("f", i), c("a", i))
		for j := range 3 {
			kinds = append(kinds, c("f", i, j))
		}
	}
	var found census
	for _, x := range kinds {
		for _, y := range kinds {
			for _, z := range kinds {
				build := func() *cells.Heap {
					h := heap(t, 20)
					put(t, h, of(nodes(x, y, z), 0, 1, 2))
					return h
				}
				for _, pair := range paired("0-1 1-2 2-0") {
					found.count(wantVerdict(t, build, pair[0], pair[1]))
				}
			}
		}
	}
	if found.few(5000, 500, 2000) {
		t.Errorf("%v", found)
	}
}

// P13.1, P13.2, P13.3: all rows of up to three out of some calls of Unify in a small heap: behind each row all pairs are looked at, and what was open ahead of it, and hangs on no variable that was bound, is open still.
func TestAllRows(t *testing.T) {
	g := made("f(1,2) X Y f(2,5) g(0) g(1) Z: 0 1 2 3 4 5 6")
	pairs := paired("0-3 1-2 1-4 2-5 4-5 0-1 3-2 6-1 6-3 2-6")
	var row []int
	build := func() *cells.Heap {
		h := heap(t, 50)
		put(t, h, g)
		for i, x := range row {
			if i == 1 {
				h.Point()
			}
			if _, err := unify.Unify(h, pairs[x][0], pairs[x][1]); err != nil {
				t.Fatal(err)
			}
		}
		return h
	}
	var first []api.Verdict
	var found census
	still := 0
	var grow func()
	grow = func() {
		for i, pair := range pairs {
			x := wantVerdict(t, build, pair[0], pair[1])
			found.count(x)
			if len(row) == 0 {
				first = append(first, x)
			}
			if first[i].Kind == isOpen && wantKept(t, build(), pair[0], pair[1], first[i]) {
				still++
			}
		}
		for i := range pairs {
			if len(row) < 3 {
				row = append(row, i)
				grow()
				row = row[:len(row)-1]
			}
		}
	}
	grow()
	if found.few(100, 1000, 3000) || still < 500 {
		t.Errorf("%v, %d still so", found, still)
	}
}

// bindings does scattered things to a heap that bind and put down, with points that are made and gone back to, but to none that was there before. A variable that is bound alone is mostly none of some.
func (d *dice) bindings(h *cells.Heap, points int, spare []int) {
	for range 1 + d.below(6) {
		m := open(h)
		all := m.cells()
		at := d.holding(m, kVar)
		for range 6 {
			if slices.Contains(spare, m.held(at).value) {
				at = d.holding(m, kVar)
			}
		}
		switch d.below(9) {
		case 0:
			h.Put(d.graph(4))
		case 1:
			h.Point()
		case 2:
			if h.Points() > points {
				h.Undo(points + d.below(h.Points()-points))
			}
		case 3:
			if h.Points() > points {
				h.Release(points + d.below(h.Points()-points))
			}
		case 4:
			unify.Unify(h, d.among(all), d.among(all))
		case 5:
			unify.Unify(h, at, d.among(all))
		case 6:
			unify.Unify(h, d.among(all), d.among(all))
		default:
			h.Bind(at, d.among(all))
		}
	}
}

// P13.2: of an open verdict, whatever was bound behind it: where Still says true, a new Look has the same Kind and Vars; and Still says true just if all of its variables are free.
func TestStillSo(t *testing.T) {
	still, woken, changed := 0, 0, 0
	for seed := range 12000 {
		h := scattered(t, seed)
		d := dice(seed + 1<<42)
		m := open(h)
		one, other := d.among(m.cells()), d.among(m.cells())
		if seed%2 == 0 {
			pair := d.ofOneFunctor(m)
			one, other = pair[0], pair[1]
		}
		x, err := differ.Look(h, one, other)
		done(t, err)
		if x.Kind != isOpen {
			continue
		}
		before, _ := m.graph(one, other)
		for range 3 {
			d.bindings(h, len(m.Marks), x.Vars)
			if wantKept(t, h, one, other, x) {
				still++
				after, _ := open(h).graph(one, other)
				if telling(after) != telling(before) {
					changed++
				}
			} else {
				woken++
			}
		}
	}
	if still < 3000 || woken < 1000 || changed < 300 {
		t.Errorf("%d still so, in %d of them the terms are others, %d to be looked at again", still, changed, woken)
	}
}

// P13.2: what is apart, or the same, stays so, whatever is bound; Still says so without looking.
func TestStaysSo(t *testing.T) {
	var found census
	for seed := range 4000 {
		h := scattered(t, seed)
		d := dice(seed + 1<<43)
		points, all := h.Points(), open(h).cells()
		one, other := d.among(all), d.among(all)
		x, err := differ.Look(h, one, other)
		done(t, err)
		found.count(x)
		if x.Kind == isOpen {
			continue
		}
		d.bindings(h, points, nil)
		wantLook(t, "stays", h, one, other, x)
	}
	if found.few(1000, 300, 1000) {
		t.Errorf("%v", found)
	}
}
