package store_test

import (
	"fmt"
	"slices"
	"strconv"
	"strings"
	"testing"

	"tendril/api"
	"tendril/graph"
	"tendril/store"
)

// The calls that change a store.
const (
	doPut = iota
	doTell
	doDiffer
	doPoint
	doUndo
	doRelease
	doSlide
	doAll // how many there are
)

// call is a call that changes a store, with its arguments.
type call struct {
	kind int
	a, b int
	g    api.Graph
	keep []bool
}

func (x call) String() string {
	name := []string{"Put", "Tell", "Differ", "Point", "Undo", "Release", "Slide"}[x.kind]
	switch x.kind {
	case doPut:
		return name + "(" + telling(x.g) + ")"
	case doSlide:
		for _, kept := range x.keep {
			name += " " + strconv.FormatBool(kept)
		}
		return name
	}
	return name + "(" + strconv.Itoa(x.a) + ", " + strconv.Itoa(x.b) + ")"
}

// rowText is a row of calls as text.
func rowText(row []call) string {
	var out []string
	for _, x := range row {
		out = append(out, x.String())
	}
	return strings.Join(out, "; ")
}

// inStore makes the call in a store; its answer is a list, be it of one number, 1 for true.
func (x call) inStore(s *store.Store) ([]int, error) {
	switch x.kind {
	case doPut:
		return s.Put(x.g)
	case doTell:
		ok, err := s.Tell(x.a, x.b)
		return []int{asNumber(ok)}, err
	case doDiffer:
		ok, err := s.Differ(x.a, x.b)
		return []int{asNumber(ok)}, err
	case doPoint:
		p, err := s.Point()
		return []int{p}, err
	case doUndo:
		return nil, s.Undo(x.a)
	case doRelease:
		return nil, s.Release(x.a)
	}
	return s.Slide(x.keep)
}

// inModel makes the call in a model.
func (x call) inModel(m *model) ([]int, refusal) {
	switch x.kind {
	case doPut:
		places, err := m.heap.Put(x.g)
		if err != nil {
			f := err.(*api.Fault)
			cause := f.Cause.(*api.Fault)
			return nil, refusal{int(f.Code), f.At, int(cause.Code), cause.At}
		}
		return places, refusal{}
	case doTell:
		ok, no := m.tell(x.a, x.b)
		return []int{asNumber(ok)}, no
	case doDiffer:
		ok, no := m.differ(x.a, x.b)
		return []int{asNumber(ok)}, no
	case doPoint:
		return []int{m.point()}, refusal{}
	case doUndo:
		return nil, m.undo(x.a)
	case doRelease:
		return nil, m.release(x.a)
	}
	return m.slide(x.keep)
}

func asNumber(yes bool) int {
	if yes {
		return 1
	}
	return 0
}

// The ways in which a call ends.
const (
	isRefused = iota
	isFalse
	isDone // true, or without such an answer
)

// wantCall makes a call in both and stops the test unless the store answers as the model does, and is behind it as the model is, and sound. It tells how the call ended.
func wantCall(t *testing.T, s *store.Store, m *model, x call, row func() string) int {
	t.Helper()
	want, no := x.inModel(m)
	got, err := x.inStore(s)
	if !no.is(err) || err == nil && !slices.Equal(got, want) || err != nil && slices.ContainsFunc(got, func(x int) bool { return x != 0 }) {
		t.Fatalf("%s: %v, %v, want %v, %+v", row(), got, err, want, no)
	}
	if d, want := s.Dump(), m.dump(); !sameDump(d, want) {
		t.Fatalf("%s: the store is\n%s, want\n%s", row(), laid(d), laid(want))
	}
	wantSound(t, s)
	if s.Max() != m.heap.Max() {
		t.Fatalf("%s: Max %d", row(), s.Max())
	}
	switch {
	case err != nil:
		return isRefused
	case (x.kind == doTell || x.kind == doDiffer) && got[0] == 0:
		return isFalse
	}
	return isDone
}

// wantCells stops the test unless all cells tell what those of the model's heap do.
func wantCells(t *testing.T, s *store.Store, m *model, row func() string) {
	t.Helper()
	for at := -1; at <= s.Top(); at++ {
		got, err := s.Look(at)
		want, no := m.heap.Look(at)
		if s.Cell(at) != m.heap.Cell(at) || fmt.Sprintf("%+v", got) != fmt.Sprintf("%+v", want) || (err == nil) != (no == nil) || err != nil && !isFault(err, errCell, 0) {
			t.Fatalf("%s: Look(%d): %+v, %v, want %+v, %v", row(), at, got, err, want, no)
		}
	}
	all := dumped(s).cells()
	got, err := s.Get(all...)
	want, _ := m.heap.Get(all...)
	if err != nil || !graph.Same(got, want) {
		t.Fatalf("%s: Get: %s, %v, want %s", row(), telling(got), err, telling(want))
	}
	count, err := s.Reach(all...)
	if wanted, _ := m.heap.Reach(all...); err != nil || count != wanted {
		t.Fatalf("%s: Reach: %d, %v, want %d", row(), count, err, wanted)
	}
}

// call is a call that mostly is taken.
func (d *dice) call(m *model) call {
	x := laidOpen{m.dump()}
	if len(x.cells()) == 0 || d.below(8) == 0 {
		return call{kind: doPut, g: d.graph(6)}
	}
	one, other := d.pair(x)
	if d.below(20) == 0 {
		if one = d.below(len(x.Words)+4) - 2; d.below(2) == 0 {
			one, other = other, one
		}
	}
	switch d.below(16) {
	case 0, 1:
		return call{kind: doPoint}
	case 2:
		return call{kind: doUndo, a: d.below(len(m.points)+3) - 1}
	case 3:
		if d.below(2) == 0 {
			return call{kind: doRelease, a: d.below(len(m.points)+3) - 1}
		}
		return call{kind: doSlide, keep: d.kept(x)}
	case 4, 5, 6, 7, 8, 9:
		return call{kind: doTell, a: one, b: other}
	}
	return call{kind: doDiffer, a: one, b: other}
}

// P14.1, P14.3: rows of scattered calls, held against the model behind each.
func TestManyCalls(t *testing.T) {
	var ends [doAll][isDone + 1]int
	barred, dropped, stayed, again := 0, 0, 0, 0
	for seed := range 4000 {
		d := dice(seed)
		size := []int{30, 100, 300}[d.below(3)]
		s, m := empty(t, size), newModel(size)
		var done []call
		row := func() string { return "seed " + strconv.Itoa(seed) + ": " + rowText(done) }
		for range 40 {
			x := d.call(m)
			before := len(m.open)
			done = append(done, x)
			how := wantCall(t, s, m, x, row)
			ends[x.kind][how]++
			switch {
			case x.kind == doTell && how == isFalse && canBe(s, x.a, x.b):
				barred++
			case x.kind == doTell && how == isDone && len(m.open) < before:
				dropped++
				if len(m.open) > 0 {
					stayed++
				}
			case x.kind == doUndo && how == isDone && len(m.open) > 0:
				again++
			}
			if d.below(10) == 0 {
				wantCells(t, s, m, row)
			}
		}
	}
	for kind, x := range ends {
		if x[isDone] < 1000 || kind != doPoint && x[isRefused] < 300 || (kind == doTell || kind == doDiffer) && x[isFalse] < 1000 {
			t.Errorf("of kind %d ended %v", kind, x)
		}
	}
	if barred < 1000 || dropped < 1000 || stayed < 500 || again < 500 {
		t.Errorf("%d Tells were barred by a disequality, %d left fewer open, %d of them some; %d Undos gave some back", barred, dropped, stayed, again)
	}
}

// canBe tells whether two cells of a store can be one, disequalities apart.
func canBe(s *store.Store, one, other int) bool { return dumped(s).verdict(one, other) != isApart }

// P14.1, P14.3: all rows of up to five out of some calls in a small store, held against the model behind each.
func TestAllRows(t *testing.T) {
	// The roots' cells from 0 to 5: X, Y, f(X, Y), f(Y, a), a, b.
	first := call{kind: doPut, g: made("X Y f(0,1) f(1,4) a b")}
	some := []call{
		{kind: doTell, a: 0, b: 1}, {kind: doTell, a: 0, b: 4}, {kind: doTell, a: 1, b: 5}, {kind: doTell, a: 2, b: 3},
		{kind: doDiffer, a: 0, b: 1}, {kind: doDiffer, a: 2, b: 3}, {kind: doDiffer, a: 1, b: 4},
		{kind: doPoint}, {kind: doUndo, a: 0}, {kind: doUndo, a: 1}, {kind: doRelease, a: 0}, {kind: doRelease, a: 1},
	}
	rows := 0
	var grow func(row []call)
	grow = func(row []call) {
		s, m := empty(t, 20), newModel(20)
		all := slices.Concat([]call{first}, row)
		telling := func() string { return rowText(all) }
		last := isDone
		for i, x := range all {
			if i == len(all)-1 {
				last = wantCall(t, s, m, x, telling)
				continue
			}
			// What comes ahead of the last call was held against the model in a shorter row.
			x.inModel(m)
			x.inStore(s)
		}
		rows++
		// What is refused or false changes nothing, so that rows behind it are others' rows.
		if last == isDone && len(row) < 5 {
			for _, x := range some {
				grow(append(slices.Clone(row), x))
			}
		}
	}
	grow(nil)
	if rows < 20000 {
		t.Errorf("%d rows", rows)
	}
}

// P14.3, P11.4: what a store tells behind Undo is what it told when the point was made, whatever came between, but for names; the same calls with and without Slides between lead to the same terms and disequalities.
func TestUndoGivesBack(t *testing.T) {
	slid := 0
	for seed := range 1500 {
		d := dice(seed + 1<<40)
		s, m := empty(t, 300), newModel(300)
		var done []call
		row := func() string { return "seed " + strconv.Itoa(seed) + ": " + rowText(done) }
		var then []string
		for range 30 {
			x := d.call(m)
			if x.kind == doUndo || x.kind == doRelease {
				continue
			}
			if x.kind == doPoint {
				then = append(then, difTerms(t, s))
			}
			done = append(done, x)
			if wantCall(t, s, m, x, row) == isDone && x.kind == doSlide && len(m.points) > 0 {
				slid++
			}
		}
		for p := len(then) - 1; p >= 0; p-- {
			if err := s.Undo(p); err != nil {
				t.Fatal(err)
			}
			wantSound(t, s)
			if got := difTerms(t, s); got != then[p] {
				t.Fatalf("%s: behind Undo(%d) open are %s, and were %s", row(), p, got, then[p])
			}
		}
	}
	if slid < 300 {
		t.Errorf("%d slides with points", slid)
	}
}

// difTerms is the terms of the open disequalities, in order.
func difTerms(t *testing.T, s *store.Store) string {
	t.Helper()
	var all []int
	for _, pair := range s.Difs() {
		all = append(all, pair[0], pair[1])
	}
	g, err := s.Get(all...)
	done(t, err)
	return telling(g)
}
