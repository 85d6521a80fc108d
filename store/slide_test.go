package store_test

import (
	"slices"
	"strings"
	"testing"

	"tendril/store"
)

// bools is a list of what is kept from a text of 1 and 0.
func bools(s string) []bool {
	var out []bool
	for i := range s {
		out = append(out, s[i] == '1')
	}
	return out
}

// wantSlide stops the test unless Slide answers these places.
func wantSlide(t *testing.T, s *store.Store, keep, want string) {
	t.Helper()
	if got, err := s.Slide(bools(keep)); err != nil || !slices.Equal(got, numbers(want)) {
		t.Fatalf("Slide(%s): %v, %v, want %s", keep, got, err, want)
	}
	wantSound(t, s)
}

// wantTorn stops the test unless Slide refuses a list by this place, and changes nothing.
func wantTorn(t *testing.T, s *store.Store, keep string, at int) {
	t.Helper()
	before := s.Dump()
	got, err := s.Slide(bools(keep))
	if len(got) > 0 || !isFault(err, errKeep, at) {
		t.Fatalf("Slide(%s): %v, %v, want it refused at %d", keep, got, err, at)
	}
	wantUnchanged(t, "refused", s, before)
}

// without is a list that keeps all words of a store but some.
func without(s *store.Store, places ...int) string {
	out := []byte(strings.Repeat("1", s.Top()))
	for _, at := range places {
		out[at] = '0'
	}
	return string(out)
}

// P14.1: a list of another length is refused ahead of all else, whatever it says and whatever is open.
func TestSlideLength(t *testing.T) {
	plain, _ := holding(t, "X a f(0)")
	laden, _ := mixed(t)
	for _, s := range []*store.Store{plain, laden, empty(t, 5)} {
		for _, count := range []int{0, 1, s.Top() - 1, s.Top() + 1, s.Top() + 100, 1000} {
			if count == s.Top() || count < 0 {
				continue
			}
			wantTorn(t, s, strings.Repeat("1", count), count)
			wantTorn(t, s, strings.Repeat("0", count), count)
		}
	}
	wantSlide(t, empty(t, 5), "", "")
}

// P14.1: cells of disequalities that aren't kept: those that are open now come first, then those of the points from 0 on, each in its order, a pair's first cell ahead of its second; and all of them ahead of what reaches what isn't kept.
func TestSlideLost(t *testing.T) {
	// The roots' cells at 0 to 7: X, Y, Z, U, a, b, f(a), f(X); X to U at 8 to 11, the functors at 12 and 14.
	s, r := holding(t, "X Y Z U a b f(4) f(0)")
	play(t, s, r, "3#4 6#7", "tt") // at the point 0
	point(t, s, 0)
	play(t, s, r, "3=5 2#4", "tt") // at the point 1: 6-7 2-4
	point(t, s, 1)
	play(t, s, r, "2=5 1#4 5#0", "ttt") // now: 6-7 1-4 5-0
	wantLaid(t, s, "ref 8, ref 9, ref 10, ref 11, atom 0, atom 1, str 12, str 14, ref 8, ref 9, atom 1, atom 1, fun 2/1, atom 0, fun 2/1, ref 8 | 11 ref 11, 10 ref 10 | 0 16 3-4 6-7, 1 16 6-7 2-4 | a b f | 6-7 1-4 5-0")
	wantTorn(t, s, without(s, 0, 1, 2, 3, 4, 5, 6, 7), 6)
	wantTorn(t, s, without(s, 0, 1, 2, 3, 4, 5, 7), 7)
	wantTorn(t, s, without(s, 0, 1, 2, 3, 4, 5), 1)
	wantTorn(t, s, without(s, 0, 2, 3, 4, 5), 4)
	wantTorn(t, s, without(s, 0, 2, 3, 5), 5)
	wantTorn(t, s, without(s, 0, 2, 3), 0)
	wantTorn(t, s, without(s, 2, 3), 3) // of the point 0
	wantTorn(t, s, without(s, 2), 2)    // of the point 1
	wantTorn(t, s, without(s, 3), 3)
	for _, at := range []int{6, 7, 1, 4, 5, 0} {
		wantTorn(t, s, without(s, at), at)
	}
	wantTorn(t, s, strings.Repeat("0", 16), 6)
	// Ahead of what reaches what isn't kept: 0 reaches 8, which comes first by its place.
	wantTorn(t, s, without(s, 8, 5), 5)
	wantTorn(t, s, without(s, 8, 9, 10, 11, 2), 2)
	wantTorn(t, s, without(s, 8), 0)
	wantTorn(t, s, without(s, 10, 11, 12, 14), 2)
	wantTorn(t, s, without(s, 12, 14), 6)
	wantTorn(t, s, without(s, 14), 7)
	wantTorn(t, s, without(s, 15), 14)
	// Behind Release of a point, its disequalities aren't asked for any more.
	done(t, s.Release(1))
	wantTorn(t, s, without(s, 3, 2, 10, 11), 3)
	done(t, s.Release(0))
	wantSlide(t, s, without(s, 3, 2, 10, 11), "0 1 -1 -1 2 3 4 5 6 7 -1 -1 8 9 10 11")
	wantLaid(t, s, "ref 6, ref 7, atom 0, atom 1, str 8, str 10, ref 6, ref 7, fun 2/1, atom 0, fun 2/1, ref 6 |  |  | a b f | 4-5 1-2 3-0")
}

// P14.1: the same cell in several disequalities; a pair that was told twice, and turned.
func TestSlideTwice(t *testing.T) {
	s, r := holding(t, "X Y a")
	play(t, s, r, "1#0 0#1 1#0 0#2", "tttt")
	point(t, s, 0)
	play(t, s, r, "1#2", "t")
	wantTorn(t, s, without(s, 0, 1), 1)
	wantTorn(t, s, without(s, 0), 0)
	wantTorn(t, s, without(s, 2), 2)
	x := put(t, s, made("b"))
	wantSlide(t, s, without(s, x[0]), "0 1 2 3 4 -1")
	wantDifs(t, s, r, "1-0 0-1 1-0 0-2 1-2")
	done(t, s.Undo(0))
	wantDifs(t, s, r, "1-0 0-1 1-0 0-2")
}

// moved is the places of cells behind a Slide.
func moved(to []int, cells []int) []int {
	var out []int
	for _, at := range cells {
		out = append(out, to[at])
	}
	return out
}

// P14.1, P14.3: behind a Slide the disequalities stand at their new places, now and behind each Undo, and each of them wakes as it did.
func TestSlideMoves(t *testing.T) {
	build := func() (*store.Store, []int) {
		s := empty(t, 100)
		put(t, s, made("g(1) c: 0 1"))
		r := put(t, s, made("X Y f(0,1) f(4,5) a b c"))
		play(t, s, r, "2#3", "t")
		point(t, s, 0)
		put(t, s, made("g(1) c: 0 1"))
		play(t, s, r, "0=4 1#6", "tt")
		point(t, s, 1)
		put(t, s, made("g(1) c: 0 1"))
		play(t, s, r, "1#4", "t")
		to, err := s.Slide(dumped(s).reach(r...))
		done(t, err)
		if s.Top() != 15 || !slices.Equal(moved(to, r), numbers("0 1 2 3 4 5 6")) {
			t.Fatal(s.Top(), to)
		}
		return s, moved(to, r)
	}
	s, r := build()
	wantLaid(t, s, "ref 7, ref 8, str 9, str 12, atom 3, atom 4, atom 1, atom 3, ref 8, fun 2/2, ref 7, ref 8, fun 2/2, atom 3, atom 4 | 7 ref 7 | 0 15 2-3, 1 15 2-3 1-6 | g c f a b | 2-3 1-6 1-4")
	// Y is barred by each of the three, and by none of them when they are gone.
	play(t, s, r, "1=5 1=6 1=4", "fff")
	done(t, s.Undo(1))
	wantDifs(t, s, r, "2-3 1-6")
	play(t, s, r, "1=5 1=6 1=4", "fft")
	wantDifs(t, s, r, "")
	done(t, s.Undo(0))
	wantDifs(t, s, r, "2-3")
	play(t, s, r, "1=5 0=4 0=5", "tft")
	wantDifs(t, s, r, "")
	done(t, s.Undo(0))
	play(t, s, r, "1=6", "t")
	wantDifs(t, s, r, "")

	// Slid again, with other words gone, at the point 1.
	s, r = build()
	done(t, s.Undo(1))
	to, err := s.Slide(bools(without(s)))
	done(t, err)
	if !slices.Equal(moved(to, r), r) {
		t.Fatal(to)
	}
	play(t, s, r, "1=5 1=6 1=4", "fft")
	wantDifs(t, s, r, "")
	done(t, s.Undo(0))
	play(t, s, r, "0=4 1=5 1=4", "tft")
	wantDifs(t, s, r, "")
}

// P14.1, P14.3: a disequality that ceased to be open since a point keeps its cells and their variables through several Slides, and is open again behind Undo.
func TestSlideOfThePast(t *testing.T) {
	s := empty(t, 100)
	junk := func() { put(t, s, made("h(0): 0 0 0")) }
	junk()
	r := put(t, s, made("X f(2) Y a"))
	play(t, s, r, "0#1", "t")
	junk()
	point(t, s, 0)
	junk()
	play(t, s, r, "0=3", "t")
	wantDifs(t, s, r, "")
	for range 3 {
		junk()
		to, err := s.Slide(dumped(s).reach(slices.Concat(r, dumped(s).difCells())...))
		done(t, err)
		r = moved(to, r)
		wantDifs(t, s, r, "")
	}
	done(t, s.Undo(0))
	wantDifs(t, s, r, "0-1")
	wantGet(t, s, r, "X f(2) Y a")
	play(t, s, r, "0=1 2=3 0=1 0=2", "ftft")
	wantDifs(t, s, r, "")
}

// P14.1: Slide that keeps all changes nothing; without disequalities none need be kept, and the points stay.
func TestSlideAllAndNone(t *testing.T) {
	s, _ := mixed(t)
	before := s.Dump()
	to, err := s.Slide(bools(without(s)))
	done(t, err)
	for at, now := range to {
		if at != now {
			t.Fatal(to)
		}
	}
	wantUnchanged(t, "all are kept", s, before)
	s, r := holding(t, "X Y a")
	point(t, s, 0)
	play(t, s, r, "0#2", "t")
	play(t, s, r, "0=1", "t")
	done(t, s.Undo(0))
	wantSlide(t, s, "00000", "-1 -1 -1 -1 -1")
	wantLaid(t, s, " |  | 0 0 | a | ")
	done(t, s.Undo(0))
	wantLaid(t, s, " |  | 0 0 | a | ")
}

// P14.1: Dump tells the disequalities that are open now and those of each point, each in its order.
func TestDump(t *testing.T) {
	s, r := holding(t, "X Y a b")
	wantLaid(t, s, "ref 4, ref 5, atom 0, atom 1, ref 4, ref 5 |  |  | a b | ")
	point(t, s, 0)
	play(t, s, r, "1#3 0#2", "tt")
	wantLaid(t, s, "ref 4, ref 5, atom 0, atom 1, ref 4, ref 5 |  | 0 6 | a b | 1-3 0-2")
	point(t, s, 1)
	play(t, s, r, "0#1 0=3", "tt")
	wantLaid(t, s, "ref 4, ref 5, atom 0, atom 1, atom 1, ref 5 | 4 ref 4 | 0 6, 0 6 1-3 0-2 | a b | 1-3 0-1")
	point(t, s, 2)
	play(t, s, r, "1=2", "t")
	wantLaid(t, s, "ref 4, ref 5, atom 0, atom 1, atom 1, atom 0 | 4 ref 4, 5 ref 5 | 0 6, 0 6 1-3 0-2, 1 6 1-3 0-1 | a b | ")
	done(t, s.Release(2))
	wantLaid(t, s, "ref 4, ref 5, atom 0, atom 1, atom 1, atom 0 | 4 ref 4, 5 ref 5 | 0 6, 0 6 1-3 0-2 | a b | ")
	done(t, s.Undo(1))
	wantLaid(t, s, "ref 4, ref 5, atom 0, atom 1, ref 4, ref 5 |  | 0 6, 0 6 1-3 0-2 | a b | 1-3 0-2")
	done(t, s.Undo(0))
	wantLaid(t, s, "ref 4, ref 5, atom 0, atom 1, ref 4, ref 5 |  | 0 6 | a b | ")
}
