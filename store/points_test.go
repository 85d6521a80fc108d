package store_test

import (
	"slices"
	"testing"

	"tendril/store"
)

// P14.1: what Tell writes is trailed as chapter 11 has it, whether disequalities are open or not: not without a point, and not above the newest point's Top. What is false leaves nothing behind.
func TestTrailed(t *testing.T) {
	for _, open := range []bool{false, true} {
		s, r := holding(t, "X Y Z a b")
		difs, atPoint := "", ""
		if open {
			play(t, s, r, "2#3 2#4", "tt")
			difs, atPoint = "2-3 2-4", " 2-3 2-4"
		}
		wantLaid(t, s, "ref 5, ref 6, ref 7, atom 0, atom 1, ref 5, ref 6, ref 7 |  |  | a b | "+difs)
		play(t, s, r, "0=3 0=4", "tf")
		wantLaid(t, s, "ref 5, ref 6, ref 7, atom 0, atom 1, atom 0, ref 6, ref 7 |  |  | a b | "+difs)
		point(t, s, 0)
		r = append(r, put(t, s, made("U f(0) f(0): 0 1 2"))...)
		play(t, s, r, "5=3 6=7 1=4 1=3", "tttf")
		wantLaid(t, s, "ref 5, ref 6, ref 7, atom 0, atom 1, atom 0, atom 1, ref 7, ref 11, str 12, str 14, atom 0, fun 2/1, ref 11, fwd 12, ref 11 | 6 ref 6 | 0 8"+atPoint+" | a b f | "+difs)
		point(t, s, 1)
		play(t, s, r, "5=4 6=0 7=6", "fft")
		wantLaid(t, s, "ref 5, ref 6, ref 7, atom 0, atom 1, atom 0, atom 1, ref 7, ref 11, str 12, str 14, atom 0, fun 2/1, ref 11, fwd 12, ref 11 | 6 ref 6 | 0 8"+atPoint+", 1 16"+atPoint+" | a b f | "+difs)
		play(t, s, r, "2=6", "t")
		wantLaid(t, s, "ref 5, ref 6, ref 7, atom 0, atom 1, atom 0, atom 1, str 12, ref 11, str 12, str 14, atom 0, fun 2/1, ref 11, fwd 12, ref 11 | 6 ref 6, 7 ref 7 | 0 8"+atPoint+", 1 16"+atPoint+" | a b f | ")
		done(t, s.Undo(1))
		done(t, s.Undo(0))
		wantLaid(t, s, "ref 5, ref 6, ref 7, atom 0, atom 1, atom 0, ref 6, ref 7 |  | 0 8"+atPoint+" | a b f | "+difs)
	}
}

// tower is a store with four points. Ahead of each one, some disequalities are told and some cease to be open; and what is open at each point, and behind all.
func tower(t *testing.T) (*store.Store, []int, []string) {
	t.Helper()
	s, r := holding(t, "X Y Z U a b f(0) f(1)")
	var open []string
	for p, x := range []struct{ tells, open string }{
		{"0#4 1#5", "0-4 1-5"},                  // told ahead of the first
		{"2#3 6#7 0=5", "1-5 2-3 6-7"},          // one of them ceases to be
		{"2#4 1=4 3#5 0#1", "2-3 2-4 3-5"},      // several do, among them one that came in between
		{"", "2-3 2-4 3-5"},                     // nothing, since the last point
		{"2=5 3=4 0#2 4#2 3#2 1#0 1#3 0#3", ""}, // all do
	} {
		for tell := range split(x.tells) {
			told(t, s, r, tell)
		}
		wantDifs(t, s, r, x.open)
		open = append(open, x.open)
		if p < 4 {
			point(t, s, p)
		}
	}
	return s, r, open
}

// P14.1, P11.4: Undo to each point, also twice, and one below the other: those that were open when the point was made are open again, in their order, and no others; the words are as they were; the point stays, those above are gone.
func TestUndo(t *testing.T) {
	_, _, open := tower(t)
	for p := range 4 {
		s, r, _ := tower(t)
		marks := s.Dump().Marks
		for range 2 {
			done(t, s.Undo(p))
			wantDifs(t, s, r, open[p])
			if got := s.Dump().Marks; !sameMarks(got, marks[:p+1]) || s.Points() != p+1 {
				t.Fatalf("%v, want %v", got, marks[:p+1])
			}
		}
		for above := p + 1; above < 5; above++ {
			if err := s.Undo(above); !isFault(err, errPoint, above) {
				t.Fatal(err)
			}
		}
		// What is told anew is as good as before, and gone again.
		before := s.Dump()
		play(t, s, r, "2#5 2=5 2=4", []string{"tft", "tft", "tff", "tff"}[p])
		if p < 2 {
			wantDifs(t, s, r, open[p])
		} else {
			wantDifs(t, s, r, open[p]+" 2-5")
		}
		done(t, s.Undo(p))
		wantUnchanged(t, "undone", s, before)
		for below := p; below >= 0; below-- {
			done(t, s.Undo(below))
			wantDifs(t, s, r, open[below])
		}
	}
}

// P14.1: Release of each point: it and those above are gone, and nothing else changes; Undo to one below gives back what was open there.
func TestRelease(t *testing.T) {
	for p := range 4 {
		s, r, open := tower(t)
		want := s.Dump()
		want.Marks = want.Marks[:p]
		done(t, s.Release(p))
		wantUnchanged(t, "released", s, want)
		if s.Points() != p {
			t.Error(s.Points())
		}
		for above := p; above < 5; above++ {
			if err := s.Release(above); !isFault(err, errPoint, above) {
				t.Fatal(err)
			}
		}
		// A new point has the number of the one that is gone, and keeps what is open now.
		point(t, s, p)
		wantDifs(t, s, r, open[4])
		done(t, s.Undo(p))
		wantDifs(t, s, r, open[4])
		for below := p - 1; below >= 0; below-- {
			done(t, s.Undo(below))
			wantDifs(t, s, r, open[below])
		}
	}
}

// P14.1: points upon points of one state; Release in the midst, and Undo to what is left.
func TestPointsUponPoints(t *testing.T) {
	s, r := holding(t, "X Y a b")
	point(t, s, 0)
	point(t, s, 1)
	play(t, s, r, "0#2", "t")
	point(t, s, 2)
	point(t, s, 3)
	play(t, s, r, "1#2 0=3", "tt")
	wantDifs(t, s, r, "1-2")
	done(t, s.Undo(3))
	wantDifs(t, s, r, "0-2")
	play(t, s, r, "0#3", "t")
	done(t, s.Release(2))
	wantDifs(t, s, r, "0-2 0-3")
	done(t, s.Undo(1))
	wantDifs(t, s, r, "")
	play(t, s, r, "1#3 0#1", "tt")
	point(t, s, 2)
	done(t, s.Release(1))
	wantDifs(t, s, r, "1-3 0-1")
	done(t, s.Undo(0))
	wantLaid(t, s, "ref 4, ref 5, atom 0, atom 1, ref 4, ref 5 |  | 0 6 | a b | ")
	done(t, s.Release(0))
	play(t, s, r, "0=2 1=2", "tt")
}

// P14.1: a point's list isn't that of the store: what is told behind the point, behind Undo, and behind Undo again is each time a list of its own.
func TestListsApart(t *testing.T) {
	s, r := holding(t, "X Y Z U a b")
	play(t, s, r, "0#4 1#4 2#4", "ttt")
	point(t, s, 0)
	play(t, s, r, "3#4", "t")
	point(t, s, 1)
	play(t, s, r, "3#5", "t")
	wantDifs(t, s, r, "0-4 1-4 2-4 3-4 3-5")
	done(t, s.Undo(1))
	wantDifs(t, s, r, "0-4 1-4 2-4 3-4")
	play(t, s, r, "0#5 0#1", "tt")
	wantDifs(t, s, r, "0-4 1-4 2-4 3-4 0-5 0-1")
	done(t, s.Undo(1))
	wantDifs(t, s, r, "0-4 1-4 2-4 3-4")
	done(t, s.Undo(0))
	wantDifs(t, s, r, "0-4 1-4 2-4")
	play(t, s, r, "1=5", "t")
	wantDifs(t, s, r, "0-4 2-4")
	play(t, s, r, "2#5", "t")
	wantDifs(t, s, r, "0-4 2-4 2-5")
	done(t, s.Undo(0))
	wantDifs(t, s, r, "0-4 1-4 2-4")
}

// P14.1, P14.3: a disequality that was looked at again behind a point sleeps, behind Undo, on the variables on which it did then.
func TestSleepsAsItDid(t *testing.T) {
	s, r := holding(t, "X Y f(0,1) f(4,5) a b c")
	play(t, s, r, "2#3", "t")
	point(t, s, 0)
	play(t, s, r, "0=4", "t")
	point(t, s, 1)
	play(t, s, r, "1=6", "t")
	wantDifs(t, s, r, "")
	done(t, s.Undo(1))
	play(t, s, r, "1=5", "f")
	done(t, s.Undo(0))
	// X wakes it, which didn't at the point 1.
	play(t, s, r, "1=5 0=4 0=6", "tft")
	wantDifs(t, s, r, "")
	done(t, s.Undo(0))
	play(t, s, r, "0=6", "t")
	wantDifs(t, s, r, "")
	done(t, s.Undo(0))
	wantDifs(t, s, r, "2-3")
	play(t, s, r, "0=4 1=5 1=6", "tft")
	wantDifs(t, s, r, "")
}

// P14.1: cells that were put down behind a point are none behind Undo, and no disequality of theirs is left; words that come to stand there are others.
func TestCellsBehindPoints(t *testing.T) {
	s, r := holding(t, "X a")
	point(t, s, 0)
	x := put(t, s, made("f(1) Y b"))
	all := slices.Concat(r, x)
	play(t, s, all, "0#2 3#1 3#4", "ttt")
	done(t, s.Undo(0))
	wantDifs(t, s, r, "")
	if s.Top() != 3 {
		t.Error(s.Top())
	}
	x = put(t, s, made("Z b"))
	all = slices.Concat(r, x)
	play(t, s, all, "2=1 0=1", "tt")
	done(t, s.Undo(0))
	play(t, s, r, "0=1", "t")
}

// P14.1: ErrDifs counts what is open now: behind Undo there is room again.
func TestManyDifsUndone(t *testing.T) {
	s, r := full(t, manyDifs-1)
	point(t, s, 0)
	play(t, s, r, "1#2", "t")
	point(t, s, 1)
	if _, err := s.Differ(r[1], r[2]); !isFault(err, errDifs, manyDifs) {
		t.Fatal(err)
	}
	done(t, s.Undo(0))
	play(t, s, r, "1#3", "t")
	if _, err := s.Differ(r[1], r[2]); !isFault(err, errDifs, manyDifs) {
		t.Fatal(err)
	}
	if got := s.Difs(); len(got) != manyDifs || got[manyDifs-1] != [2]int{r[1], r[3]} {
		t.Fatal(pairsText(got))
	}
	// At a point there may be as many as now.
	point(t, s, 1)
	play(t, s, r, "0=2", "t")
	play(t, s, r, "1#2", "t")
	wantDifs(t, s, r, "1-3 1-2")
	done(t, s.Undo(1))
	if len(s.Difs()) != manyDifs {
		t.Error(len(s.Difs()))
	}
	wantSound(t, s)
}

// P14.1: many points, with and without something told between them.
func TestManyPoints(t *testing.T) {
	s, r := holding(t, "X Y a b")
	for p := range 3000 {
		if p == 1000 || p == 2000 {
			play(t, s, r, "0#2", "t")
		}
		if _, err := s.Point(); err != nil {
			t.Fatal(err)
		}
	}
	wantDifs(t, s, r, "0-2 0-2")
	for _, x := range []struct {
		p    int
		open string
	}{{2999, "0-2 0-2"}, {2000, "0-2 0-2"}, {1999, "0-2"}, {1000, "0-2"}, {999, ""}, {0, ""}} {
		done(t, s.Undo(x.p))
		wantDifs(t, s, r, x.open)
	}
}
