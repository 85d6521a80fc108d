package collect_test

import (
	"slices"
	"strconv"
	"strings"
	"testing"

	"tendril/collect"
	"tendril/store"
)

// twins are two stores that are told the same: one is never compacted, the other now and then. Of the cells that both know, the places in each.
type twins struct {
	t           *testing.T
	plain, slim *store.Store
	at, to      []int
	row         []string
}

func newTwins(t *testing.T, max int) *twins {
	return &twins{t: t, plain: empty(t, max), slim: empty(t, max)}
}

// same stops the test unless what both answered is the same.
func (w *twins) same(what string, x, y any, errs ...error) {
	w.t.Helper()
	w.row = append(w.row, what)
	for _, err := range errs {
		if err != nil {
			w.t.Fatalf("%s: %v", strings.Join(w.row, "; "), err)
		}
	}
	if x != y {
		w.t.Fatalf("%s: %v, want %v", strings.Join(w.row, "; "), y, x)
	}
}

// put puts a graph down in both; all cells that were laid are known from now on.
func (w *twins) put(d *dice) {
	w.t.Helper()
	g := d.graph(6)
	was, been := w.plain.Top(), w.slim.Top()
	if was+60 > w.plain.Max() {
		return
	}
	_, err := w.plain.Put(g)
	_, no := w.slim.Put(g)
	w.same("Put("+telling(g)+")", w.plain.Top()-was, w.slim.Top()-been, err, no)
	for i := range w.plain.Top() - was {
		if w.plain.Cell(was + i) {
			w.at, w.to = append(w.at, was+i), append(w.to, been+i)
		}
	}
}

// tell tells both that two cells are one, or that they stay unlike.
func (w *twins) tell(i, k int, unlike bool) bool {
	w.t.Helper()
	one, other, what := w.plain.Tell, w.slim.Tell, "Tell("
	if unlike {
		one, other, what = w.plain.Differ, w.slim.Differ, "Differ("
	}
	x, err := one(w.at[i], w.at[k])
	y, no := other(w.to[i], w.to[k])
	w.same(what+strconv.Itoa(w.at[i])+", "+strconv.Itoa(w.at[k])+")", x, y, err, no)
	return x
}

// free is a cell that mostly holds a free variable.
func (w *twins) free(d *dice) int {
	i := 0
	for range 1 + d.below(5) {
		i = d.below(len(w.at))
		if cell, err := w.plain.Look(w.at[i]); err == nil && cell.Kind == kVar {
			break
		}
	}
	return i
}

func (w *twins) point() {
	w.t.Helper()
	x, err := w.plain.Point()
	y, no := w.slim.Point()
	w.same("Point", x, y, err, no)
}

// undo brings both back; those cells are known still that were there.
func (w *twins) undo(p int) {
	w.t.Helper()
	err, no := w.plain.Undo(p), w.slim.Undo(p)
	w.same("Undo("+strconv.Itoa(p)+")", w.plain.Points(), w.slim.Points(), err, no)
	var at, to []int
	for i := range w.at {
		w.same("there", w.at[i] < w.plain.Top(), w.to[i] < w.slim.Top())
		w.row = w.row[:len(w.row)-1]
		if w.at[i] < w.plain.Top() {
			at, to = append(at, w.at[i]), append(to, w.to[i])
		}
	}
	w.at, w.to = at, to
}

func (w *twins) release(p int) {
	w.t.Helper()
	err, no := w.plain.Release(p), w.slim.Release(p)
	w.same("Release("+strconv.Itoa(p)+")", w.plain.Points(), w.slim.Points(), err, no)
}

// compact compacts the one store, with some of the cells as roots; no others are known any more. It tells how many words went.
func (w *twins) compact(d *dice) int {
	w.t.Helper()
	var all []int
	for i := range w.at {
		all = append(all, i)
	}
	// With many roots at times, else rows soon have nothing left to tell of.
	which := d.some(all)
	if d.below(2) == 0 {
		which = slices.Concat(d.some(all), d.some(all), d.some(all), d.some(all))
	}
	var at, roots []int
	for _, i := range which {
		at, roots = append(at, w.at[i]), append(roots, w.to[i])
	}
	before := w.slim.Top()
	w.row = append(w.row, "Run")
	w.at, w.to = at, run(w.t, w.slim, roots)
	return before - w.slim.Top()
}

// agree stops the test unless all known cells and all open disequalities hold the same in both.
func (w *twins) agree() {
	w.t.Helper()
	if got, want := state(w.t, w.slim, w.to), state(w.t, w.plain, w.at); got != want {
		w.t.Fatalf("%s: %s, want %s", strings.Join(w.row, "; "), short(got), short(want))
	}
	x, y := w.plain.Dump(), w.slim.Dump()
	for p := range x.Marks {
		if len(x.Marks[p].Difs) != len(y.Marks[p].Difs) {
			w.t.Fatalf("%s: %s, want %s", strings.Join(w.row, "; "), laid(y), laid(x))
		}
	}
}

// P15.1 to P15.4: rows of scattered calls lead to the same in a store that is compacted between them and in one that isn't; each compaction is held against the chapter's words.
func TestTwins(t *testing.T) {
	runs, went, upon, trailed, dropped, bars, opened := 0, 0, 0, 0, 0, 0, 0
	for seed := range 4000 {
		d := dice(seed)
		w := newTwins(t, []int{100, 300, 1000}[d.below(3)])
		w.row = []string{"seed " + strconv.Itoa(seed)}
		for range 30 {
			points := w.plain.Points()
			switch kind := d.below(20); {
			case kind < 3 || len(w.at) == 0:
				w.put(&d)
			case kind < 6:
				w.point()
			case kind < 7 && points > 0:
				w.undo(d.below(points))
			case kind < 8 && points > 0 && d.below(3) == 0:
				w.release(d.below(points))
			case kind < 9:
				before := w.slim.Dump()
				gone := w.compact(&d)
				now := w.slim.Dump()
				runs++
				went += min(gone, 1)
				if len(now.Marks) > 1 && gone > 0 {
					upon++
				}
				if len(now.Trail) > 0 && gone > 0 {
					trailed++
				}
				if len(now.Trail) < len(before.Trail) && len(now.Trail) > 0 {
					dropped++
				}
				if len(now.Difs) > 0 && gone > 0 {
					opened++
				}
			case kind < 16:
				if !w.tell(w.free(&d), d.below(len(w.at)), false) && len(w.slim.Difs()) > 0 {
					bars++
				}
			default:
				w.tell(w.free(&d), d.below(len(w.at)), true)
			}
			w.agree()
		}
		for p := w.plain.Points() - 1; p >= 0; p-- {
			w.undo(p)
			w.agree()
		}
	}
	if runs < 8000 || went < 6000 || upon < 2500 || trailed < 1200 || dropped < 150 || bars < 2000 || opened < 2000 {
		t.Errorf("%d runs, %d took words out, %d with points upon points, %d with a trail, %d dropped some of it, %d with open ones; %d Tells were false with open ones", runs, went, upon, trailed, dropped, opened, bars)
	}
}

// P15.2: scattered rows, each built again for each of its points: behind Run, Undo and Release of each lead to what they would have led to.
func TestScatteredPasts(t *testing.T) {
	points, roots := 0, 0
	for seed := range 1500 {
		build := func() (*store.Store, []int) {
			d := dice(seed + 1<<40)
			w := newTwins(t, 400)
			for range 14 {
				switch kind := d.below(10); {
				case kind < 2 || len(w.at) == 0:
					w.put(&d)
				case kind < 4:
					w.point()
				case kind < 8:
					w.tell(w.free(&d), d.below(len(w.at)), false)
				default:
					w.tell(w.free(&d), d.below(len(w.at)), true)
				}
			}
			// Both are the same as yet.
			return w.plain, d.some(w.at)
		}
		s, r := build()
		points += s.Points()
		roots += len(r)
		wantPast(t, build)
	}
	if points < 3000 || roots < 3000 {
		t.Errorf("%d points, %d roots", points, roots)
	}
}

// P15.1 to P15.4: all rows of up to five out of some calls in a small store, compacted behind each row with each of some lists of roots.
func TestAllRows(t *testing.T) {
	// The roots' cells from 0 to 5: X, Y, f(X, Y), f(Y, a), a, b.
	some := []func(s *store.Store) error{
		func(s *store.Store) error { _, err := s.Tell(0, 1); return err },
		func(s *store.Store) error { _, err := s.Tell(0, 4); return err },
		func(s *store.Store) error { _, err := s.Tell(3, 2); return err },
		func(s *store.Store) error { _, err := s.Tell(1, 5); return err },
		func(s *store.Store) error { _, err := s.Differ(0, 1); return err },
		func(s *store.Store) error { _, err := s.Differ(2, 3); return err },
		func(s *store.Store) error { _, err := s.Point(); return err },
		func(s *store.Store) error { return s.Undo(0) },
		func(s *store.Store) error { return s.Release(0) },
		func(s *store.Store) error { _, err := s.Put(made("f(0,1) X: 0")); return err },
	}
	lists := [][]int{nil, {0}, {3}, {5, 1}, {2, 4, 2}}
	rows := 0
	build := func(row []int) (*store.Store, bool) {
		s := empty(t, 60)
		put(t, s, made("X Y f(0,1) f(1,4) a b"))
		changed := true
		for _, i := range row {
			before := laid(s.Dump())
			err := some[i](s)
			changed = err == nil && laid(s.Dump()) != before
		}
		return s, changed
	}
	var grow func(row []int)
	grow = func(row []int) {
		// What changes nothing makes of the row another one.
		if _, changed := build(row); !changed {
			return
		}
		rows++
		for _, roots := range lists {
			s, _ := build(row)
			before := state(t, s, roots)
			places := run(t, s, roots)
			if now := state(t, s, places); now != before {
				t.Fatalf("%v, Run(%v): %s, want %s", row, roots, now, before)
			}
		}
		if len(row) < 5 {
			for i := range some {
				grow(append(slices.Clone(row), i))
			}
		}
	}
	grow(nil)
	if rows < 3000 {
		t.Errorf("%d rows", rows)
	}
}

// P1: calls end, and none panics, at scattered arguments of all kinds; what is refused is what has a root that is no cell.
func TestAnyArguments(t *testing.T) {
	taken, refused := 0, 0
	for seed := range 3000 {
		d := dice(seed + 1<<45)
		s := empty(t, 80)
		for range 3 {
			s.Put(d.graph(4))
			s.Point()
			s.Tell(d.below(20), d.below(20))
			s.Differ(d.below(20), d.below(20))
		}
		var roots []int
		for range d.below(4) {
			roots = append(roots, []int{-1 << 63, -1, 0, 1, 2, 3, 4, 5, 6, 7, 8, 9, 10, 11, 12, 79, 80, 65536, 1<<63 - 1}[d.below(19)])
		}
		strange := slices.IndexFunc(roots, func(at int) bool { return !dumped(s).cell(at) })
		if strange >= 0 {
			refused++
			wantRefused(t, s, roots, strange)
			continue
		}
		taken++
		run(t, s, roots)
	}
	if taken < 300 || refused < 300 {
		t.Error(taken, refused)
	}
}

// R9: what is answered hangs on the store and the roots alone, not on what else was asked.
func TestCountIsRun(t *testing.T) {
	for seed := range 500 {
		d := dice(seed + 1<<50)
		var s [3]*store.Store
		g := d.graph(6)
		for i := range s {
			s[i] = empty(t, 100)
			put(t, s[i], g)
		}
		roots := d.some(dumped(s[0]).cells())
		count, err := collect.Count(s[1], roots)
		done(t, err)
		collect.Count(s[2], nil)
		collect.Count(s[2], roots)
		var left []string
		for _, x := range s {
			places, err := collect.Run(x, roots)
			done(t, err)
			left = append(left, laid(x.Dump())+state(t, x, places))
			if x.Top() != count {
				t.Fatal(x.Top(), count)
			}
		}
		if left[0] != left[1] || left[1] != left[2] {
			t.Fatal(left)
		}
	}
}
