package collect_test

import (
	"slices"
	"strconv"
	"strings"
	"testing"

	"tendril/store"
)

// P15.1: what the trail has of a place that is wanted is wanted, in several steps, in whichever order the trail has them; what it has of others isn't.
func TestTrail(t *testing.T) {
	// f(g(X)): the cell at 0, f at 1, g at 3, X at 5; f(g(W)): the cell at 6, f at 7, g at 9, W at 11.
	build := func(row string, points int) *store.Store {
		s, _ := holding(t, "f(1) g(2) X: 0")
		put(t, s, made("f(1) g(2) W: 0"))
		for p := range points {
			point(t, s, p)
		}
		play(t, s, []int{0, 6, 2, 8}, row, strings.Repeat("t", len(strings.Fields(row))))
		return s
	}
	const outer, inner = "0=1", "2=3 0=1"

	// Without a point only the forward at 7 stays, not what was behind it.
	for _, row := range []string{outer, inner} {
		s := build(row, 0)
		wantLaid(t, s, "str 1, fun 0/1, str 3, fun 1/1, ref 5, ref 5, str 7, fwd 1, str 9, fwd 3, ref 11, ref 5 |  |  | f g | ")
		wantRun(t, s, "6", 7, "5", "fun 0/1, str 2, fun 1/1, ref 4, ref 4, str 6, fwd 0 |  |  | f g | ")
	}

	// With one, the functor that stood at 7 reaches 8, that 9, and the functor that stood there 10, and that W.
	const kept = "fun 0/1, str 2, fun 1/1, ref 4, ref 4, str 6, fwd 0, str 8, fwd 2, ref 10, ref 4"
	s := build(outer, 1)
	wantRun(t, s, "6", 11, "5", kept+" | 6 fun 0/1, 8 fun 1/1, 10 ref 10 | 0 11 | f g | ")
	done(t, s.Undo(0))
	wantLaid(t, s, "fun 0/1, str 2, fun 1/1, ref 4, ref 4, str 6, fun 0/1, str 8, fun 1/1, ref 10, ref 10 |  | 0 11 | f g | ")
	wantGet(t, s, []int{5, 1}, "f(1) g(2) W g(4) X: 0 3")
	s = build(inner, 1)
	wantRun(t, s, "6", 11, "5", kept+" | 8 fun 1/1, 10 ref 10, 6 fun 0/1 | 0 11 | f g | ")
	done(t, s.Undo(0))
	wantGet(t, s, []int{5, 1}, "f(1) g(2) W g(4) X: 0 3")

	// The other term wants none of the places that were changed: nothing of the trail stays.
	s = build(outer, 2)
	wantRun(t, s, "0", 6, "0", "str 1, fun 0/1, str 3, fun 1/1, ref 5, ref 5 |  | 0 6, 0 6 | f g | ")
	done(t, s.Undo(1))
	wantGet(t, s, []int{0}, "f(1) g(2) X: 0")

	// Of some places that were changed the words are wanted, of others not.
	s = build(outer, 1)
	wantRun(t, s, "8", 7, "3", "fun 1/1, ref 2, ref 2, str 4, fwd 0, ref 6, ref 2 | 4 fun 1/1, 6 ref 6 | 0 7 | f g | ")
	s = build(outer, 1)
	wantRun(t, s, "11 10", 3, "2 1", "ref 0, ref 2, ref 0 | 2 ref 2 | 0 3 | f g | ")
}

// P15.1: words above a point's Top are changed without a trail, and then what they reached isn't wanted.
func TestAboveThePoint(t *testing.T) {
	s, r := holding(t, "f(1) X: 0")
	point(t, s, 0)
	r = append(r, put(t, s, made("f(1) a: 0"))...)
	play(t, s, r, "0=1", "t")
	// The functor at 5 was forwarded; its argument at 6 isn't wanted. X's word was trailed.
	wantRun(t, s, "4", 5, "3", "fun 0/1, ref 2, atom 1, str 4, fwd 0 | 2 ref 2 | 0 3 | f a | ")
	wantGet(t, s, []int{3}, "f(1) a: 0")
	done(t, s.Undo(0))
	wantLaid(t, s, "fun 0/1, ref 2, ref 2 |  | 0 3 | f a | ")
}

// P15.1: words of the trail are wanted also when their points were released.
func TestReleased(t *testing.T) {
	s, r := holding(t, "f(1) X: 0")
	r = append(r, put(t, s, made("f(1) a: 0"))...)
	point(t, s, 0)
	point(t, s, 1)
	play(t, s, r, "0=1", "t")
	done(t, s.Release(1))
	const kept = "fun 0/1, ref 2, atom 1, str 4, fwd 0, atom 1 | 4 fun 0/1, 2 ref 2 | "
	wantCount(t, s, []int{4}, 6)
	done(t, s.Release(0))
	wantRun(t, s, "4", 6, "3", kept+" | f a | ")
	point(t, s, 0)
	wantRun(t, s, "3", 6, "3", kept+"2 6 | f a | ")
	done(t, s.Undo(0))
	wantGet(t, s, []int{3}, "f(1) a: 0")
}

// P15.3: below each point's Top lie just those words that stay and lay below it, with roots below it and above.
func TestTops(t *testing.T) {
	build := func() *store.Store {
		s, _ := holding(t, "a b X") // at 0 to 3
		point(t, s, 0)
		put(t, s, made("f(1) c: 0 1")) // at 4 to 7
		point(t, s, 1)
		point(t, s, 2)
		put(t, s, made("d e")) // at 8 and 9
		point(t, s, 3)
		return s
	}
	for _, x := range []struct{ roots, places, left string }{
		{"0", "0", "atom 0 |  | 0 1, 0 1, 0 1, 0 1 | a b f c d e | "},
		{"9", "0", "atom 5 |  | 0 0, 0 0, 0 0, 0 1 | a b f c d e | "},
		{"5", "0", "atom 3 |  | 0 0, 0 1, 0 1, 0 1 | a b f c d e | "},
		{"8 2", "2 0", "ref 1, ref 1, atom 4 |  | 0 2, 0 2, 0 2, 0 3 | a b f c d e | "},
		{"4 1", "1 0", "atom 1, str 2, fun 2/1, atom 3 |  | 0 1, 0 4, 0 4, 0 4 | a b f c d e | "},
		{"9 8 5 4 3 2 1 0", "9 8 5 4 3 2 1 0", laid(build().Dump())},
	} {
		s := build()
		wantRun(t, s, x.roots, len(dumped(s).wanted(numbers(x.roots))), x.places, x.left)
	}
}

// P15.1, P15.2: cells of disequalities that are open now are wanted, and what they reach.
func TestDifs(t *testing.T) {
	// The roots' cells are at 0 to 5, X at 6, Y at 7, f(X) at 8, f(b) at 10.
	s, r := holding(t, "X Y f(0) f(5) a b")
	play(t, s, r, "3#2 1#4", "tt")
	wantCount(t, s, nil, 10)
	wantCount(t, s, []int{2}, 10)
	wantCount(t, s, []int{0, 5}, 12)
	wantRun(t, s, "0", 11, "0", "ref 5, ref 6, str 7, str 9, atom 2, ref 5, ref 6, fun 0/1, ref 5, fun 0/1, atom 1 |  |  | f b a | 3-2 1-4")
	// They wake at the new places.
	x := put(t, s, made("b a c"))
	play(t, s, []int{0, 1, x[0], x[1], x[2]}, "0=2 1=3 1=4", "fft")
	if got := pairsText(s.Difs()); got != "3-2" {
		t.Error(got)
	}
	play(t, s, []int{0, x[2]}, "0=1", "t")
	wantRun(t, s, "0", 2, "0", "ref 1, atom 3 |  |  | f b a c | ")
}

// P15.1, P15.2: cells of disequalities that were open when a point was made are wanted, though none is open now, as long as the point is there.
func TestDifsOfPoints(t *testing.T) {
	build := func() (*store.Store, []int) {
		s, r := holding(t, "X a Y b")
		play(t, s, r, "0#1", "t")
		point(t, s, 0)
		play(t, s, r, "0=3 2#1", "tt")
		point(t, s, 1)
		play(t, s, r, "2=3", "t")
		wantLaid(t, s, "ref 4, atom 0, ref 5, atom 1, atom 1, atom 1 | 4 ref 4, 5 ref 5 | 0 6 0-1, 1 6 2-1 | a b | ")
		return s, r
	}
	s, _ := build()
	wantRun(t, s, "", 5, "", "ref 3, atom 0, ref 4, atom 1, atom 1 | 3 ref 3, 4 ref 4 | 0 5 0-1, 1 5 2-1 | a b | ")
	done(t, s.Undo(1))
	wantLaid(t, s, "ref 3, atom 0, ref 4, atom 1, ref 4 | 3 ref 3 | 0 5 0-1, 1 5 2-1 | a b | 2-1")
	play(t, s, []int{2, 1}, "0=1", "f")
	done(t, s.Undo(0))
	wantLaid(t, s, "ref 3, atom 0, ref 4, ref 3, ref 4 |  | 0 5 0-1 | a b | 0-1")
	play(t, s, []int{0, 1, 2}, "0=1 2=1", "ft")
	wantRun(t, s, "", 3, "", "ref 2, atom 0, ref 2 |  | 0 3 0-1 | a b | 0-1")

	s, _ = build()
	done(t, s.Release(1))
	wantRun(t, s, "", 3, "", "ref 2, atom 0, atom 1 | 2 ref 2 | 0 3 0-1 | a b | ")
	s, _ = build()
	done(t, s.Release(0))
	wantRun(t, s, "", 0, "", " |  |  | a b | ")
}

// P15.1, P15.2: what a disequality's cells held when the point was made is wanted, too, in several steps.
func TestDifsOfThePast(t *testing.T) {
	// f(g(X)) at 0, f(g(W)) at 6, as in the trail's test; a at 12.
	s, _ := holding(t, "f(1) g(2) X: 0")
	put(t, s, made("f(1) g(2) W: 0"))
	b := put(t, s, made("f(1) g(2) a: 0"))
	play(t, s, []int{6, b[0]}, "0#1", "t")
	point(t, s, 0)
	x := put(t, s, made("f(1) g(2) b: 0"))
	play(t, s, []int{0, 6, x[0]}, "0=1 1=2", "tt")
	if len(s.Difs()) != 0 {
		t.Fatal(s.Difs())
	}
	run(t, s, nil)
	wantGet(t, s, s.Dump().Marks[0].Difs[0][:], "f(1) g(2) b f(4) g(5) a: 0 3")
	done(t, s.Undo(0))
	pair := s.Difs()[0]
	wantGet(t, s, pair[:], "f(1) g(2) W f(4) g(5) a: 0 3")
	play(t, s, pair[:], "0=1", "f")
}

// past builds a store with points, and tells the roots with which it is to be compacted.
type past func() (*store.Store, []int)

// wantPast stops the test unless Undo to each point, and Release of each, lead to the same terms and disequalities in the store that was compacted and in the one that wasn't.
func wantPast(t *testing.T, build past) {
	t.Helper()
	s, r := build()
	for p := range s.Points() {
		for _, undo := range []bool{true, false} {
			wantPastAt(t, build, p, undo)
		}
	}
	slim, _ := build()
	places := run(t, slim, r)
	if got, want := state(t, slim, places), state(t, s, r); got != want {
		t.Fatalf("now: %s, want %s", short(got), short(want))
	}
}

// wantPastAt asks it of one point.
func wantPastAt(t *testing.T, build past, p int, undo bool) {
	t.Helper()
	s, r := build()
	slim, _ := build()
	places := run(t, slim, r)
	for _, x := range []*store.Store{s, slim} {
		if undo {
			done(t, x.Undo(p))
		} else {
			done(t, x.Release(p))
		}
	}
	what := "behind Release of "
	if undo {
		what = "behind Undo to "
	}
	what += strconv.Itoa(p)
	var left, leftPlaces []int
	for i, at := range r {
		if (at < s.Top()) != (places[i] < slim.Top()) {
			t.Fatalf("%s: the root at %d, which is at %d now, is of %d words, and of %d", what, at, places[i], s.Top(), slim.Top())
		}
		if at < s.Top() {
			left, leftPlaces = append(left, at), append(leftPlaces, places[i])
		}
	}
	if got, want := state(t, slim, leftPlaces), state(t, s, left); got != want || slim.Points() != s.Points() {
		t.Fatalf("%s: %s, want %s", what, short(got), short(want))
	}
	wantSound(t, slim)
	again := run(t, slim, leftPlaces)
	if got, want := state(t, slim, again), state(t, s, left); got != want {
		t.Fatalf("%s and compacted again: %s, want %s", what, short(got), short(want))
	}
}

// P15.2: with points, and points upon points, and roots below and above their Tops.
func TestPast(t *testing.T) {
	wantPast(t, func() (*store.Store, []int) { return holding(t, "X f(0) a") })
	wantPast(t, func() (*store.Store, []int) {
		s, r := holding(t, "X f(0) a")
		point(t, s, 0)
		play(t, s, r, "0=2", "t")
		return s, r[:2]
	})
	for _, which := range []string{"0 1 2 3 4 5 6 7 8", "8 7 6", "0 1", "", "7 0 7", "4", "3 2 3", "8", "7", "5"} {
		wantPast(t, func() (*store.Store, []int) {
			s := empty(t, 200)
			junk := func() { put(t, s, made("k(0,1) j: 0 1")) }
			junk()
			r := put(t, s, made("X f(0,4) f(3,3) Z g(2) U"))
			junk()
			play(t, s, r, "0#5", "t")
			point(t, s, 0)
			junk()
			r = append(r, put(t, s, made("Y f(0,0)"))...)
			play(t, s, r, "1=2 6#5", "tt")
			point(t, s, 1)
			play(t, s, r, "7=1", "t")
			point(t, s, 2)
			r = append(r, put(t, s, made("h(0,1) V: 0"))...)
			junk()
			play(t, s, r, "5=8", "t")
			if d := s.Dump(); len(d.Difs) != 0 || len(d.Marks[0].Difs) != 1 || len(d.Marks[1].Difs) != 2 || len(d.Marks[2].Difs) != 2 || len(d.Trail) < 5 {
				t.Fatal(laid(d))
			}
			var roots []int
			for _, i := range numbers(which) {
				roots = append(roots, r[i])
			}
			return s, roots
		})
	}
}

// P15.2: compacted behind each step, a store goes the same way, and back, as one that isn't.
func TestStepByStep(t *testing.T) {
	s, slim := empty(t, 300), empty(t, 300)
	var r, places []int
	both := func(step func(x *store.Store, r []int) []int) {
		t.Helper()
		r = append(r, step(s, r)...)
		places = append(places, step(slim, places)...)
		left := slices.DeleteFunc(slices.Clone(r), func(at int) bool { return at >= s.Top() })
		r, places = left, run(t, slim, places[:len(left)])
		if got, want := state(t, slim, places), state(t, s, r); got != want {
			t.Fatalf("%s, want %s", got, want)
		}
	}
	lays := func(g string) {
		t.Helper()
		both(func(x *store.Store, _ []int) []int {
			put(t, x, made("k(0) j: 0 1"))
			return put(t, x, made(g))
		})
	}
	tells := func(row, want string) {
		t.Helper()
		both(func(x *store.Store, r []int) []int { play(t, x, r, row, want); return nil })
	}
	points := func(p int) {
		t.Helper()
		both(func(x *store.Store, _ []int) []int { point(t, x, p); return nil })
	}
	undoes := func(p int) {
		t.Helper()
		both(func(x *store.Store, _ []int) []int { done(t, x.Undo(p)); return nil })
	}
	lays("X Y f(0,1) f(1,0) a b") // 0 to 5
	tells("2#3 0#4", "tt")
	points(0)
	lays("g(1) Z: 0 1") // 6 and 7
	tells("0=6 1#0", "tt")
	points(1)
	tells("7=5 1=6", "tf")
	tells("1=4", "t")
	undoes(1)
	tells("1=6", "f")
	lays("g(1) b: 0") // 8
	points(2)
	tells("7=5 1=8", "tf")
	tells("1=5", "t")
	undoes(0)
	tells("0=1 0=4 0=5 1=5", "fftf")
	tells("1=4", "t")
	undoes(0)
	tells("1=5 0=5", "tf")
	both(func(x *store.Store, _ []int) []int { done(t, x.Release(0)); return nil })
	tells("0=4", "f")
	lays("c") // 6
	tells("0=6", "t")
}
