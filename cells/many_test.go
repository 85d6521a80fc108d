package cells_test

import (
	"slices"
	"strconv"
	"strings"
	"testing"

	"tendril/api"
	"tendril/cells"
	"tendril/graph"
)

// The calls that change a heap.
const (
	doPut = iota
	doBind
	doMerge
	doPoint
	doUndo
	doRelease
	doSlide
	doAll // how many there are
)

// call is a call that changes a heap, with its arguments.
type call struct {
	kind int
	a, b int
	g    api.Graph
	keep []bool
}

func (x call) String() string {
	name := []string{"Put", "Bind", "Merge", "Point", "Undo", "Release", "Slide"}[x.kind]
	switch x.kind {
	case doPut:
		return name + "(" + telling(x.g) + ")"
	case doSlide:
		for _, kept := range x.keep {
			name += " " + strconv.FormatBool(kept)
		}
		return name
	}
	return name + "(" + strconv.Itoa(x.a) + ", " + strconv.Itoa(x.b) + ")"
}

// told is a row of calls as text.
func told(row []call) string {
	var out []string
	for _, x := range row {
		out = append(out, x.String())
	}
	return strings.Join(out, "; ")
}

// inHeap makes the call in a heap; its answer is a list, be it of one number.
func (x call) inHeap(h *cells.Heap) ([]int, error) {
	switch x.kind {
	case doPut:
		return h.Put(x.g)
	case doBind:
		return nil, h.Bind(x.a, x.b)
	case doMerge:
		return nil, h.Merge(x.a, x.b)
	case doPoint:
		p, err := h.Point()
		return []int{p}, err
	case doUndo:
		return nil, h.Undo(x.a)
	case doRelease:
		return nil, h.Release(x.a)
	}
	return h.Slide(x.keep)
}

// inModel makes the call in a model.
func (x call) inModel(m *model) ([]int, refusal) {
	switch x.kind {
	case doPut:
		return m.put(x.g)
	case doBind:
		return nil, m.bind(x.a, x.b)
	case doMerge:
		return nil, m.merge(x.a, x.b)
	case doPoint:
		return []int{m.point()}, refusal{}
	case doUndo:
		return nil, m.undo(x.a)
	case doRelease:
		return nil, m.release(x.a)
	}
	return m.slide(x.keep)
}

// wantModel stops the test unless all that a heap tells without a cell is what the model says, and the heap is sound (P11.1, P11.3, P11.4).
func wantModel(t *testing.T, h *cells.Heap, m *model, row func() string) {
	t.Helper()
	d, want := h.Dump(), m.dump()
	same := slices.Equal(d.Words, want.Words) && slices.Equal(d.Trail, want.Trail) && slices.Equal(d.Names, want.Names) && len(d.Difs) == 0
	same = same && slices.EqualFunc(d.Marks, want.Marks, func(x, y api.Mark) bool { return x.Trail == y.Trail && x.Top == y.Top && len(x.Difs) == 0 })
	if !same {
		t.Fatalf("%s: the heap is\n%s, want\n%s", row(), laid(d), laid(want))
	}
	if h.Max() != m.max || h.Top() != len(m.words) || h.Points() != len(m.points) || h.Writes() != m.writes {
		t.Fatalf("%s: Max %d, Top %d, Points %d, Writes %d", row(), h.Max(), h.Top(), h.Points(), h.Writes())
	}
	if why := unsound(d); why != "" {
		t.Fatalf("%s: %s", row(), why)
	}
}

// wantCells stops the test unless all cells hold what the model says, one by one and all at once.
func wantCells(t *testing.T, h *cells.Heap, m *model, row func() string) {
	t.Helper()
	for at := -1; at <= len(m.words); at++ {
		if h.Cell(at) != m.cell(at) {
			t.Fatalf("%s: Cell(%d): %v", row(), at, h.Cell(at))
		}
		if !m.cell(at) {
			continue
		}
		if got, err := h.Look(at); err != nil || !sameCell(got, m.look(at)) {
			t.Fatalf("%s: Look(%d): %+v, %v, want %+v", row(), at, got, err, m.look(at))
		}
		if got, err := h.Reach(at); err != nil || got != count(m.reach(false, at)) {
			t.Fatalf("%s: Reach(%d): %d, %v", row(), at, got, err)
		}
		_, want := m.get(at)
		if got, err := h.Get(at); err != nil || !graph.Same(got, want) {
			t.Fatalf("%s: Get(%d): %s, %v, want %s", row(), at, telling(got), err, telling(want))
		}
	}
	all := m.cells()
	_, want := m.get(all...)
	if got, err := h.Get(all...); err != nil || !graph.Same(got, want) {
		t.Fatalf("%s: Get: %s, %v, want %s", row(), telling(got), err, telling(want))
	}
	if got, err := h.Reach(all...); err != nil || got != count(m.reach(false, all...)) {
		t.Fatalf("%s: Reach: %d, %v", row(), got, err)
	}
}

func count(list []bool) int {
	sum := 0
	for _, yes := range list {
		if yes {
			sum++
		}
	}
	return sum
}

// wantCall makes a call in both and stops the test unless the heap answers as the model does; it tells whether the call was taken.
func wantCall(t *testing.T, h *cells.Heap, m *model, x call, row func() string) bool {
	t.Helper()
	want, no := x.inModel(m)
	got, err := x.inHeap(h)
	if !isRefusal(err, no) || err == nil && !slices.Equal(got, want) || err != nil && slices.ContainsFunc(got, func(x int) bool { return x != 0 }) {
		t.Fatalf("%s: %v, %v, want %v, %+v", row(), got, err, want, no)
	}
	return no == refusal{}
}

// place is mostly that of a cell of a model.
func (d *dice) place(m *model) int {
	if all := m.cells(); len(all) > 0 && d.below(20) > 0 {
		return all[d.below(len(all))]
	}
	return d.below(len(m.words)+4) - 2
}

// kept is a list for Slide: mostly of what is reachable from some cells, now and by the trail; now and then one entry is another, or one is missing.
func (d *dice) kept(m *model) []bool {
	var roots []int
	for _, at := range m.cells() {
		if d.below(3) == 0 {
			roots = append(roots, at)
		}
	}
	out := m.reach(d.below(4) > 0, roots...)
	if len(out) > 0 && d.below(4) == 0 {
		at := d.below(len(out))
		out[at] = !out[at]
	}
	switch d.below(20) {
	case 0:
		out = append(out, true)
	case 1:
		out = out[:max(0, len(out)-1)]
	}
	return out
}

// call is a call that mostly is taken.
func (d *dice) call(m *model) call {
	switch d.below(16) {
	case 0, 1, 2:
		return call{kind: doPut, g: d.graph(6)}
	case 3, 4:
		return call{kind: doPoint}
	case 5:
		return call{kind: doUndo, a: d.below(len(m.points)+3) - 1}
	case 6:
		if d.below(2) == 0 {
			return call{kind: doRelease, a: d.below(len(m.points)+3) - 1}
		}
		return call{kind: doSlide, keep: d.kept(m)}
	case 7, 8, 9, 10:
		return call{kind: doMerge, a: d.compound(m), b: d.compound(m)}
	}
	return call{kind: doBind, a: d.variable(m), b: d.place(m)}
}

// compound is mostly the place of a cell that holds a compound.
func (d *dice) compound(m *model) int { return d.holding(m, kComp) }

// variable is mostly the place of a cell that holds a free variable.
func (d *dice) variable(m *model) int { return d.holding(m, kVar) }

func (d *dice) holding(m *model, kind int) int {
	for range 6 {
		if at := d.place(m); m.cell(at) && m.held(at).kind == kind {
			return at
		}
	}
	return d.place(m)
}

// P11.1, P11.3, P11.4, P11.5: rows of scattered calls, held against the model behind each.
func TestManyCalls(t *testing.T) {
	var taken, not [doAll]int
	for seed := range 3000 {
		d := dice(seed)
		size := []int{20, 60, 200}[d.below(3)]
		h, m := heap(t, size), &model{max: size}
		var done []call
		row := func() string { return "seed " + strconv.Itoa(seed) + ": " + told(done) }
		for range 40 {
			x := d.call(m)
			done = append(done, x)
			if wantCall(t, h, m, x, row) {
				taken[x.kind]++
			} else {
				not[x.kind]++
			}
			wantModel(t, h, m, row)
			if d.below(6) == 0 {
				wantCells(t, h, m, row)
			}
		}
	}
	for kind := range doAll {
		if taken[kind] < 1000 || kind != doPoint && not[kind] < 500 {
			t.Errorf("of kind %d %d calls were taken, %d refused", kind, taken[kind], not[kind])
		}
	}
}

// P11.1: all rows of up to six out of some calls in a small heap, held against the model behind each.
func TestAllRows(t *testing.T) {
	some := []call{
		{kind: doPut, g: made("X f(0)", "0 1")}, {kind: doPut, g: made("f(1) a", "0")},
		{kind: doBind, a: 0, b: 1}, {kind: doBind, a: 2, b: 6}, {kind: doBind, a: 5, b: 0},
		{kind: doMerge, a: 1, b: 6}, {kind: doPoint}, {kind: doUndo, a: 0}, {kind: doUndo, a: 1}, {kind: doRelease, a: 0},
		{kind: doSlide, keep: bools("11111")}, {kind: doSlide, keep: bools("10100")}, {kind: doSlide, keep: bools("1111111111")}, {kind: doSlide, keep: bools("0001100110")}, {kind: doSlide, keep: bools("0000011111")},
	}
	rows := 0
	var grow func(row []call)
	grow = func(row []call) {
		h, m := heap(t, 14), &model{max: 14}
		all := slices.Concat([]call{some[0]}, row)
		telling := func() string { return told(all) }
		for i, x := range all {
			ok := wantCall(t, h, m, x, telling)
			if !ok && i == len(all)-1 {
				// What is refused changes nothing, so that rows behind it are others' rows.
				wantModel(t, h, m, telling)
				return
			}
		}
		rows++
		wantModel(t, h, m, telling)
		if len(row) < 6 {
			for _, x := range some {
				grow(append(slices.Clone(row), x))
			}
			return
		}
		if rows%16 == 0 {
			wantCells(t, h, m, telling)
		}
	}
	grow(nil)
	if rows < 30000 {
		t.Errorf("%d rows", rows)
	}
}

// play makes a row of calls in a new heap.
func play(t *testing.T, size int, row []call) *cells.Heap {
	t.Helper()
	h := heap(t, size)
	for _, x := range row {
		x.inHeap(h)
	}
	return h
}

// P11.5: each cell that Slide keeps holds the same term, now and behind each Undo; what is kept keeps its order. Each heap is held against another that was made by the same calls.
func TestSlideKeeps(t *testing.T) {
	slid, undone := 0, 0
	for seed := range 4000 {
		d := dice(seed)
		m := &model{max: 120}
		var row []call
		for range 25 {
			x := d.call(m)
			if x.kind != doUndo {
				x.inModel(m)
				row = append(row, x)
			}
		}
		keep := d.kept(m)
		h, plain := play(t, 120, row), play(t, 120, row)
		to, err := h.Slide(keep)
		if err != nil {
			continue
		}
		slid++
		kept := slices.DeleteFunc(slices.Clone(to), func(at int) bool { return at < 0 })
		if !slices.Equal(kept, numbers(upTo(h.Top()))) || len(kept) != count(keep) {
			t.Fatalf("seed %d: %v, Top %d", seed, to, h.Top())
		}
		wantHeld(t, h, plain, to)
		for p := range m.points {
			h, plain := play(t, 120, row), play(t, 120, row)
			h.Slide(keep)
			wantNil(t, "Undo", h.Undo(p))
			wantNil(t, "Undo", plain.Undo(p))
			wantHeld(t, h, plain, to)
			if h.Top() != count(keep[:plain.Top()]) {
				t.Fatalf("seed %d: Undo(%d): Top %d", seed, p, h.Top())
			}
			undone++
		}
	}
	if slid < 2000 || undone < 4000 {
		t.Errorf("%d slid, %d undone", slid, undone)
	}
}

// wantHeld stops the test unless those cells of a heap that were kept in another one, where they stand at other places, hold the same terms there.
func wantHeld(t *testing.T, h, plain *cells.Heap, to []int) {
	t.Helper()
	var here, there []int
	for at := range plain.Top() {
		if to[at] >= 0 && plain.Cell(at) {
			here, there = append(here, to[at]), append(there, at)
		}
	}
	got, err := h.Get(here...)
	want, err2 := plain.Get(there...)
	if err != nil || err2 != nil || !graph.Same(got, want) {
		t.Fatalf("%v: %s, %v, want %s, %v", to, telling(got), err, telling(want), err2)
	}
}

// P11.4: words at each point, kept aside, are there again behind Undo, in whatever order points are gone back to.
func TestManyUndo(t *testing.T) {
	undone := 0
	for seed := range 4000 {
		d := dice(seed)
		h, m := heap(t, 150), &model{max: 150}
		var then [][]uint64
		for range 40 {
			x := d.call(m)
			if x.kind == doSlide {
				continue
			}
			_, no := x.inModel(m)
			words := h.Dump().Words
			x.inHeap(h)
			if no != (refusal{}) {
				continue
			}
			switch x.kind {
			case doPoint:
				then = append(then, words)
			case doRelease:
				then = then[:x.a]
			case doUndo:
				then = then[:x.a+1]
				undone++
				if now := h.Dump(); !slices.Equal(now.Words, then[x.a]) || h.Top() != len(then[x.a]) {
					t.Fatalf("seed %d: %s", seed, laid(now))
				}
			}
		}
		for p := len(then) - 1; p >= 0; p-- {
			wantNil(t, "Undo", h.Undo(p))
			if now := h.Dump(); !slices.Equal(now.Words, then[p]) || len(now.Trail) != now.Marks[p].Trail {
				t.Fatalf("seed %d: %s", seed, laid(now))
			}
			undone++
		}
	}
	if undone < 5000 {
		t.Errorf("%d undone", undone)
	}
}

// P11.1, P11.3: long ways of references and of forwards are followed to their end.
func TestLongWays(t *testing.T) {
	h := heap(t, manyWords)
	vars := putGraph(t, h, of(slices.Repeat(nodes(v()), most), numbers(upTo(most))...))
	for i := most - 1; i > 0; i-- {
		wantNil(t, "Bind", h.Bind(vars[i], vars[i-1]))
	}
	wantLook(t, h, vars[most-1], api.Cell{Kind: kVar, At: most})
	if g, err := h.Get(vars...); err != nil || len(g.Nodes) != 1 {
		t.Fatal(len(g.Nodes), err)
	}
	if got, err := h.Reach(vars[most-1]); got != most+1 || err != nil {
		t.Error(got, err)
	}
	comps := make([]int, 0, most)
	for range most {
		comps = append(comps, putGraph(t, h, made("f(1) X", "0"))...)
	}
	for i := most - 1; i > 0; i-- {
		wantNil(t, "Merge", h.Merge(comps[i], comps[i-1]))
	}
	wantLook(t, h, comps[most-1], api.Cell{Kind: kComp, At: 2*most + 1, Name: "f", Args: []int{2*most + 2}})
	if g, err := h.Get(comps...); err != nil || len(g.Nodes) != 2 {
		t.Fatal(len(g.Nodes), err)
	}
	if got, err := h.Reach(comps[most-1]); got != most+3 || err != nil {
		t.Error(got, err)
	}
	if h.Writes() != 2*most-2 {
		t.Error(h.Writes())
	}
}
