package unify_test

import (
	"testing"

	"tendril/api"
	"tendril/cells"
	"tendril/unify"
)

// census counts what could be made one and what couldn't.
type census struct{ yes, no int }

func (x *census) count(can bool) {
	if can {
		x.yes++
	} else {
		x.no++
	}
}

// change does something to a heap: terms are put down, bound, merged or made one; points are made, gone back to, and released.
func (d *dice) change(h *cells.Heap) {
	m := open(h)
	all := m.cells()
	if len(all) == 0 {
		h.Put(d.graph(6))
		return
	}
	switch d.below(14) {
	case 0, 1, 2, 3:
		h.Put(d.graph(6))
	case 4, 5, 6:
		h.Point()
	case 7:
		h.Undo(d.below(h.Points() + 1))
	case 8:
		h.Release(d.below(h.Points() + 1))
	case 9, 10:
		h.Bind(d.holding(m, kVar), d.among(all))
	case 11, 12:
		h.Merge(d.holding(m, kComp), d.holding(m, kComp))
	default:
		unify.Unify(h, d.among(all), d.among(all))
	}
}

// holding is a cell that mostly holds a term of a kind.
func (d *dice) holding(m laidOpen, kind int) int {
	all := m.cells()
	for range 8 {
		if at := d.among(all); m.held(at).kind == kind {
			return at
		}
	}
	return d.among(all)
}

// P12.1 to P12.4: scattered cells of heaps to which scattered things were done, one pair and several.
func TestMany(t *testing.T) {
	var one, several census
	trails, points := 0, 0
	for seed := range 4000 {
		build := func() *cells.Heap {
			d := dice(seed)
			h := heap(t, 120)
			for range 4 + d.below(16) {
				d.change(h)
			}
			if h.Top() == 0 {
				put(t, h, made("f(1,0) X: 0 1"))
			}
			return h
		}
		m := open(build())
		if len(m.Trail) > 0 {
			trails++
		}
		points += len(m.Marks)
		d := dice(seed + 1<<40)
		all := m.cells()
		for range 3 {
			one.count(wantMade(t, build, [][2]int{{d.among(all), d.among(all)}}))
		}
		one.count(wantMade(t, build, [][2]int{{d.holding(m, kComp), d.holding(m, kComp)}}))
		var pairs [][2]int
		for range 2 + d.below(3) {
			pairs = append(pairs, [2]int{d.among(all), d.among(all)})
		}
		several.count(wantMade(t, build, pairs))
	}
	if one.yes < 4000 || one.no < 3000 || several.yes < 1000 || several.no < 1000 || trails < 1000 || points < 3000 {
		t.Errorf("one pair: %v, several: %v, with trails: %d, points: %d", one, several, trails, points)
	}
}

// P12.1 to P12.4: greater graphs, without points and with a point behind, of which two halves can often be made one.
func TestManyGreater(t *testing.T) {
	var found census
	for seed := range 1500 {
		d := dice(seed)
		g := d.graph(24)
		g.Nodes[g.Roots[0]] = c("f", d.below(len(g.Nodes)), d.below(len(g.Nodes)), d.below(len(g.Nodes)))
		twin := d.twin(g)
		build := func() *cells.Heap {
			h := heap(t, 500)
			put(t, h, g)
			if seed%2 == 0 {
				h.Point()
			}
			put(t, h, twin)
			return h
		}
		second, err := build().Need(g)
		done(t, err)
		found.count(wantMade(t, build, [][2]int{{0, second}}))
	}
	if found.yes < 300 || found.no < 300 {
		t.Errorf("%v", found)
	}
}

// twin is a graph some of whose nodes are variables instead, and now and then something else.
func (d *dice) twin(g api.Graph) api.Graph {
	out := api.Graph{Roots: g.Roots}
	for _, m := range g.Nodes {
		switch d.below(8) {
		case 0:
			m = v()
		case 1:
			m = d.node(len(g.Nodes))
		}
		out.Nodes = append(out.Nodes, m)
	}
	return out
}

// P12.1 to P12.4: all graphs of three nodes of some kinds, with all pairs of their nodes.
func TestAllSmall(t *testing.T) {
	kinds := nodes(v(), a("a"), a("b"), n(1))
	for i := range 3 {
		kinds = append(kinds, c("f", i), c("a", i))
		for j := range 3 {
			kinds = append(kinds, c("f", i, j))
		}
	}
	every := paired("0-1 1-2 2-0")
	var found census
	for _, x := range kinds {
		for _, y := range kinds {
			for _, z := range kinds {
				build := func() *cells.Heap {
					h := heap(t, 20)
					put(t, h, of(nodes(x, y, z), 0, 1, 2))
					return h
				}
				for i, pair := range every {
					found.count(wantMade(t, build, [][2]int{pair}))
					found.count(wantMade(t, build, [][2]int{pair, every[(i+1)%3]}))
				}
			}
		}
	}
	if found.yes < 5000 || found.no < 5000 {
		t.Errorf("%v", found)
	}
}

// P12.1, P12.2: all rows of up to four out of some calls of Unify in a small heap, with the words that are told by no call held against what layer 10 says, behind each.
func TestAllRows(t *testing.T) {
	g := made("f(1,2) X Y f(2,5) g(0) g(1): 0 1 2 3 4 5")
	pairs := paired("0-3 1-2 1-4 2-5 4-5 0-1 3-2 1-3")
	var row []int
	play := func() *cells.Heap {
		h := heap(t, 50)
		put(t, h, g)
		for i, x := range row {
			if i == 1 {
				h.Point()
			}
			if _, err := unify.Unify(h, pairs[x][0], pairs[x][1]); err != nil {
				t.Fatal(err)
			}
		}
		return h
	}
	var found census
	var grow func()
	grow = func() {
		for i, pair := range pairs {
			found.count(wantMade(t, play, [][2]int{pair}))
			if len(row) < 3 {
				row = append(row, i)
				grow()
				row = row[:len(row)-1]
			}
		}
	}
	grow()
	if found.yes < 1000 || found.no < 100 {
		t.Errorf("%v", found)
	}
}
