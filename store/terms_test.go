package store_test

import (
	"slices"
	"strconv"
	"strings"
	"testing"

	"tendril/store"
)

// P14.1: the examples of the chapter.
func TestExamples(t *testing.T) {
	s, r := holding(t, "X a b")
	play(t, s, r, "0#1", "t")
	wantDifs(t, s, r, "0-1")
	play(t, s, r, "0=2", "t")
	wantDifs(t, s, r, "")
	wantGet(t, s, r[:1], "b")

	s, r = holding(t, "X a b")
	play(t, s, r, "0#1 0=1", "tf")
	wantDifs(t, s, r, "0-1")
	wantGet(t, s, r[:1], "X")

	s, r = holding(t, "X Y f(0,1) f(4,5) a b c")
	play(t, s, r, "2#3 0=4", "tt")
	wantDifs(t, s, r, "2-3")
	play(t, s, r, "1=5", "f")
	wantDifs(t, s, r, "2-3")
	wantGet(t, s, r[1:2], "X")
	play(t, s, r, "1=6", "t")
	wantDifs(t, s, r, "")
	wantGet(t, s, r[2:3], "f(1,2) a c: 0")

	s, r = holding(t, "X Y f(3) Z a b")
	play(t, s, r, "0#1 0=2 1=2 0#0", "ttff")
	wantDifs(t, s, r, "0-1")
	play(t, s, r, "4#5", "t")
	wantDifs(t, s, r, "0-1")
}

// row is terms, what is told of them, what is answered, and which are open then.
type row struct{ terms, tells, want, open string }

// wantPlayed plays the row in stores without a point, with a point, with one upon the other, and with points ahead of each call; behind that, Undo of each point gives back what was there. The answers are the same each time.
func (x row) wantPlayed(t *testing.T) {
	t.Helper()
	for points := range 3 {
		s, r := holding(t, x.terms)
		var then []string
		for p := range points {
			then = append(then, laid(s.Dump()))
			point(t, s, p)
		}
		play(t, s, r, x.tells, x.want)
		wantDifs(t, s, r, x.open)
		wantBack(t, s, then)
	}
	s, r := holding(t, x.terms)
	var then []string
	got := ""
	for tell := range strings.FieldsSeq(x.tells) {
		then = append(then, laid(s.Dump()))
		point(t, s, len(then)-1)
		got += map[bool]string{true: "t", false: "f"}[told(t, s, r, tell)]
	}
	if got != x.want {
		t.Fatalf("%s, %s, with points: %s, want %s", x.terms, x.tells, got, x.want)
	}
	wantDifs(t, s, r, x.open)
	wantBack(t, s, then)
}

// wantBack stops the test unless Undo of each point, the last one first, gives back what was there when it was made. Nothing was put down since.
func wantBack(t *testing.T, s *store.Store, then []string) {
	t.Helper()
	for p := len(then) - 1; p >= 0; p-- {
		done(t, s.Undo(p))
		wantSound(t, s)
		done(t, s.Release(p))
		if got := laid(s.Dump()); got != then[p] {
			t.Fatalf("behind Undo(%d): %s, want %s", p, got, then[p])
		}
	}
}

// P14.1, P14.3: Tell of two that can't be made one, of two that are one already, and of two that a disequality keeps apart.
func TestTell(t *testing.T) {
	for _, x := range []row{
		// Without disequalities: as chapter 12 has it.
		{"X a", "0=1 0=1 1=0", "ttt", ""},
		{"X Y a b", "0=1 1=2 0=3", "ttf", ""},
		{"a b 7 f(0) f(1)", "0=1 0=2 0=3 3=4 0=0", "fffft", ""},
		{"X f(0) f(1)", "0=1 0=2 1=2", "ttt", ""},
		// What can't be made one isn't, with disequalities that it would have touched, and with others.
		{"f(1,2) X a f(4,5) b b Y", "1#4 0=3 6#2 0=3", "tftf", "1-4 6-2"},
		{"X f(0,2) a f(4,5) b c", "0#4 1=3 0#5 1=3", "tftf", "0-4 0-5"},
		{"a b X Y", "2#3 0=1 1=0", "tff", "2-3"},
		// What is one already is one, and no disequality is touched.
		{"X Y a f(0)", "0#1 0=0 3=3 2=2", "tttt", "0-1"},
		{"X Y Z", "0=1 0#2 0=1 1=0", "tttt", "0-2"},
		{"X f(0) f(0) Y", "0#3 1=2 2=1", "ttt", "0-3"},
		// They can be made one, but a disequality becomes the same: alone, as the first, a middle and the last one.
		{"X a", "0#1 0=1", "tf", "0-1"},
		{"X a b c", "0#1 0#2 0#3 0=1 0=2 0=3", "tttfff", "0-1 0-2 0-3"},
		{"X Y a b", "1#2 0#1 0#2 0=1 0=2", "tttff", "1-2 0-1 0-2"},
		{"X Y", "0#1 0=1 1=0", "tff", "0-1"},
		{"X Y f(0) f(1)", "2#3 0=1 2=3", "tff", "2-3"},
		{"X Y f(0) f(1)", "0#1 2=3 3=2 0=1", "tfff", "0-1"},
		// By what only follows from the two.
		{"X Y f(0,1) f(1,4) a", "0#4 2=3", "tf", "0-4"},
		{"X Y f(0,1) f(1,4) a", "1#0 2=3", "tf", "1-0"},
		{"X f(0) Y f(2)", "1#3 0=2 0=3 2=1", "tftf", "1-3"},
		{"X Y f(0,1) f(3,2)", "0#3 0=1 2=3", "ttf", "0-3"},
	} {
		x.wantPlayed(t)
	}
}

// P14.1, P14.3: Tell behind which some disequalities become apart and some stay open, in their order: the first, a middle and the last one.
func TestTellLeaves(t *testing.T) {
	for _, x := range []row{
		{"X a b", "0#1 0=2", "tt", ""},
		{"X Y Z a b", "0#3 1#3 2#3 0=4", "tttt", "1-3 2-3"},
		{"X Y Z a b", "0#3 1#3 2#3 1=4", "tttt", "0-3 2-3"},
		{"X Y Z a b", "0#3 1#3 2#3 2=4", "tttt", "0-3 1-3"},
		{"X Y Z a b", "0#3 1#3 2#3 0=4 2=4", "ttttt", "1-3"},
		{"X Y Z a b", "0#3 1#3 0#2 2#3 0=4", "ttttt", "1-3 0-2 2-3"},
		{"X Y Z a b", "0#1 1#2 2#0 0=3", "tttt", "0-1 1-2 2-0"},
		{"X Y Z a b", "0#1 1#2 2#0 0=3 1=4", "ttttt", "1-2 2-0"},
		{"X Y Z a b", "0#1 1#2 2#0 0=3 1=4 2=3 2=4", "tttttff", "1-2 2-0"},
		{"X Y Z a b c", "0#1 1#2 2#0 0=3 1=4 2=5", "tttttt", ""},
		// All at once.
		{"X a b c", "0#1 0#2 0#1 0=3", "tttt", ""},
		{"X Y f(0,1) f(4,5) a b", "0#5 1#4 0#1 2=3", "tttt", ""},
		{"X Y Z f(0,1) f(5,6) a b", "0#6 2#6 1#5 0#1 2#0 3=4", "tttttt", "2-6 2-0"},
		// Another kind of term, another functor, another number of arguments; what can still be one stays.
		{"X f(2) a 7 g(2) f(2,2) Y f(6)", "0#1 0=3", "tt", ""},
		{"X f(2) a 7 g(2) f(2,2) Y f(6)", "0#1 0=4", "tt", ""},
		{"X f(2) a 7 g(2) f(2,2) Y f(6)", "0#1 0=5", "tt", ""},
		{"X f(2) a 7 g(2) f(2,2) Y f(6)", "0#1 0=2", "tt", ""},
		{"X f(2) a 7 g(2) f(2,2) Y f(6)", "0#1 0=7", "tt", "0-1"},
		{"X f(2) a 7 g(2) f(2,2) Y f(6)", "0#1 0=7 6=2 6=3", "ttft", ""},
	} {
		x.wantPlayed(t)
	}
}

// P14.1, P14.3: a disequality that hangs on several variables, of which one after the other is bound; each is looked at again, also where the new verdict hangs on others than the old one did.
func TestSeveralVariables(t *testing.T) {
	for _, x := range []row{
		{"X Y f(0,1) f(4,5) a b c", "2#3 0=4 1=5 1=6", "ttft", ""},
		{"X Y f(0,1) f(4,5) a b c", "2#3 1=5 0=4 0=6", "ttft", ""},
		{"X Y f(0,1) f(4,5) a b c", "2#3 0=6 1=5", "ttt", ""},
		{"X Y f(0,1) f(4,5) a b c", "2#3 0=1", "tt", ""},
		{"X Y Z f(0,1,2) f(5,6,7) a b c d", "3#4 0=5 1=6 2=7 2=8", "tttft", ""},
		{"X Y Z f(0,1,2) f(5,6,7) a b c d", "3#4 2=7 0=5 1=6 1=8", "tttft", ""},
		{"X Y Z f(0,1,2) f(5,6,7) a b c d", "3#4 1=6 2=7 0=5 0=8", "tttft", ""},
		{"X Y Z f(0,1,2) f(5,6,7) a b c d", "3#4 1=6 0=5 3=4 2=7", "tttff", "3-4"},
		// It sleeps on Y when X is bound to what holds Y, and only then on Z.
		{"X Y Z f(1) f(2) a b", "0#4 0=3 1=2 1=5 2=5 2=6", "ttftft", ""},
		{"X Y Z f(1) f(2) a b", "0#4 0=3 2=5 1=5 1=6", "tttft", ""},
		// Variables that are given each other's places.
		{"X Y Z U f(0,1) f(2,3) a b", "4#5 0=2 1=3 4=5", "ttff", "4-5"},
		{"X Y Z U f(0,1) f(2,3) a b", "4#5 0=3 1=3 2=3", "tttf", "4-5"},
		{"X Y Z U f(0,1) f(2,3) a b", "4#5 0=3 1=3 2=6 3=6 3=7", "ttttft", ""},
		// Long ways: each step makes it hang on another one.
		{"A B C D E f(1) f(2) f(3) f(4) f(0)", "0#4 0=5 1=6 2=7 3=8 0=4 4=9", "tttttff", "0-4"},
	} {
		x.wantPlayed(t)
	}
}

// P14.1: disequalities between two variables, with a third one between them; one pair told twice, and the pair turned; a cell with itself, and with another cell of the same.
func TestBetweenVariables(t *testing.T) {
	for _, x := range []row{
		{"X Y Z a b", "0#2 0=1 1=2 2=1", "ttff", "0-2"},
		{"X Y Z a b", "0#2 0=1 1=3 2=3 2=4", "tttft", ""},
		{"X Y Z a b", "0#2 1=0 0=3 2=3", "tttf", "0-2"},
		{"X Y Z a b", "0#1 1#2 0=2", "ttt", "0-1 1-2"},
		{"X Y Z a b", "0#1 1#2 0=2 1=2", "tttf", "0-1 1-2"},
		{"X Y Z a b", "0#1 1#2 2=0 1=3 0=3 2=4", "ttttft", ""},
		{"X Y Z a b", "2#0 2=1 1=0", "ttf", "2-0"},
		// Twice, and turned: each of them is one of its own.
		{"X Y a b", "0#1 0#1", "tt", "0-1 0-1"},
		{"X Y a b", "0#1 1#0", "tt", "0-1 1-0"},
		{"X Y a b", "0#1 1#0 0#1 0=1", "tttf", "0-1 1-0 0-1"},
		{"X Y a b", "0#1 0#2 1#0 0#2 0=3", "ttttt", "0-1 1-0"},
		{"X Y a b", "0#1 0#2 1#0 0#2 0=3 1=2", "tttttt", ""},
		// One with itself.
		{"X a f(0) f(1)", "0#0 1#1 2#2 3#3", "ffff", ""},
		{"X X f(0) f(0): 0 0 2 3", "0#1 2#3 3#2", "fff", ""},
		{"X f(0) f(0) Y", "1#2 0=3 0#3 3#0", "ftff", ""},
		{"X Y", "0=1 0#1 1#0", "tff", ""},
		{"X Y", "0#1 0#0 1#1 0=1", "tfff", "0-1"},
	} {
		x.wantPlayed(t)
	}
}

// P14.1: Differ of each verdict, for terms of each kind.
func TestDiffer(t *testing.T) {
	for _, x := range []row{
		{"a b", "0#1 1#0", "tt", ""},
		{"a 7", "0#1 1#0", "tt", ""},
		{"7 8 -7", "0#1 1#2 2#0", "ttt", ""},
		{"a f(0) f f(0,0) g(0)", "0#1 1#2 1#3 1#4", "tttt", ""},
		{"a a 7 7 f(0) f(1)", "0#1 2#3 4#5", "fff", ""},
		{"X f(0) f(3) Y", "0#1 1#2 2#3", "ttt", "0-1 1-2 2-3"},
		{"X f(0,0) f(3,4) a b", "1#2 2#1", "tt", ""},
		{"X f(0,0) f(3,3) a", "1#2 2#1", "tt", "1-2 2-1"},
		{"X Y f(0) g(1)", "2#3 0#3 1#2", "ttt", "0-3 1-2"},
		// Open as long as a variable isn't bound; bound ahead of it.
		{"X a b", "0=1 0#1 0#2", "tft", ""},
		{"X Y f(0) f(1)", "0=1 2#3 2#0", "tft", "2-0"},
	} {
		x.wantPlayed(t)
	}
}

// P14.1, P14.3: circles in the terms.
func TestCircles(t *testing.T) {
	for _, x := range []row{
		// X and f(X): they can be one, but stay unlike.
		{"X f(0)", "0#1 0=1 1=0", "tff", "0-1"},
		{"X f(0) f(1) a", "0#1 0=2 0=3", "tft", ""},
		{"X f(0) f(1) a", "0#2 0=1 0=3", "tft", ""},
		{"X f(0) g(0)", "0#1 0=2", "tt", ""},
		// Circles of unlike lengths that are one.
		{"f(0) f(2) f(1)", "0#1 1#2 0=2 0#2", "fftf", ""},
		{"f(0) f(2) f(1) X", "0#3 3=1 3=2 1=3", "tfff", "0-3"},
		{"f(0) f(2) f(1) X f(3) a", "0#3 3=4 4=3 3=5", "tfft", ""},
		{".(1,0) 0 .(3,2) X 1", "0#2 3=1 0=2 3=4", "tfft", ""},
		{".(1,2) X .(3,0) Y .(5,4) 0", "0#4 1=5 3=5", "ttf", "0-4"},
		{".(1,2) X .(3,0) Y .(5,4) 0 1", "0#4 1=5 3=6", "ttt", ""},
		{".(1,2) X .(3,0) Y .(5,4) 0 1", "4#0 3=6", "tt", ""},
		// X is f(Y) and Y is f(X): only then is X what it may not be.
		{"X Y f(0) f(1) f(4)", "0#4 0=3 1=2 1=4", "ttff", "0-4"},
		{"X Y f(0) f(1) f(4) a", "4#0 0=3 1=2 1=5", "ttft", ""},
		{"X Y f(0,2) f(1,3) a b", "2#3 0=2 1=3", "ttf", "2-3"},
		{"X Y f(0,4) f(1,5) a b", "2#3 0=2 1=3 2#3", "tttt", ""},
		{"X Y f(0,4) f(1,4) a", "2#3 0=2 1=3 0=1", "ttff", "2-3"},
		{"X Y f(0,4) f(1,4) a", "0#1 0=2 1=3", "ttf", "0-1"},
	} {
		x.wantPlayed(t)
	}
}

// P14.1: any cell is taken, not the roots' cells alone: a variable's own word, and a compound's arguments; the pair is told as it was handed in.
func TestAnyCell(t *testing.T) {
	s, _ := holding(t, "f(1,2) X a Y: 0 3")
	wantLaid(t, s, "str 2, ref 6, fun 0/2, ref 5, atom 1, ref 5, ref 6 |  |  | f a | ")
	all := numbers("0 1 2 3 4 5 6")
	play(t, s, all, "3#4 5#6 6#3 1#0 4#0 5#3", "tttttf")
	wantLaid(t, s, "str 2, ref 6, fun 0/2, ref 5, atom 1, ref 5, ref 6 |  |  | f a | 3-4 5-6 6-3 1-0")
	play(t, s, all, "1=5 6=4", "ft")
	wantLaid(t, s, "str 2, ref 6, fun 0/2, ref 5, atom 1, ref 5, atom 1 |  |  | f a | 3-4 5-6 6-3")
	play(t, s, all, "5=1 3=0 6=3", "ftf")
	wantLaid(t, s, "str 2, ref 6, fun 0/2, ref 5, atom 1, str 2, atom 1 |  |  | f a | ")
	// All pairs of cells, each in a store of its own.
	for one := range 7 {
		for other := range 7 {
			if one == 2 || other == 2 {
				continue
			}
			s, _ := holding(t, "f(1,2) X a Y: 0 3")
			want := dumped(s).verdict(one, other)
			if ok := told(t, s, all, strconv.Itoa(one)+"#"+strconv.Itoa(other)); ok != (want != isSame) || len(s.Difs()) > 0 != (want == isOpen) {
				t.Errorf("Differ(%d, %d): %v, %v", one, other, ok, s.Difs())
			}
			wantSound(t, s)
		}
	}
}

// full is a store with so many disequalities open: between W and 0, 1, and so on. The roots are W, V, a, f(V), f(W) and two cells of g(V).
func full(t *testing.T, count int) (*store.Store, []int) {
	t.Helper()
	s := empty(t, 1000)
	r := put(t, s, made("W V a f(1) f(0) g(1) g(1)"))
	for i := range count {
		at := put(t, s, made(strconv.Itoa(i)))
		if ok, err := s.Differ(r[0], at[0]); !ok || err != nil {
			t.Fatal(i, ok, err)
		}
	}
	if len(s.Difs()) != count {
		t.Fatal(len(s.Difs()))
	}
	return s, r
}

// P14.1: Differ of each verdict with 254, 255 and 256 open ones: ErrDifs only where the verdict is open, and nothing has changed.
func TestManyDifs(t *testing.T) {
	for _, count := range []int{manyDifs - 2, manyDifs - 1, manyDifs} {
		for _, points := range []int{0, 1, 3} {
			s, r := full(t, count)
			for p := range points {
				point(t, s, p)
			}
			before := s.Dump()
			play(t, s, r, "0#0 5#6 2#3 3#2 3#5", "ffttt")
			wantUnchanged(t, "not open", s, before)
			for open := count; open < manyDifs; open++ {
				play(t, s, r, "1#2", "t")
			}
			before = s.Dump()
			for _, pair := range paired("1-2 2-1 0-1 3-4 0-2") {
				ok, err := s.Differ(r[pair[0]], r[pair[1]])
				if ok || !isFault(err, errDifs, manyDifs) {
					t.Fatalf("with %d: %v, %v", manyDifs, ok, err)
				}
				wantUnchanged(t, "too many", s, before)
			}
			// What is no cell is told ahead of it; what isn't open is answered still.
			if ok, err := s.Differ(r[0], -1); ok || !isStrange(err, 1) {
				t.Fatal(ok, err)
			}
			play(t, s, r, "0#0 5#6 2#3 3#2", "fftt")
			wantUnchanged(t, "not open", s, before)
			// When one is no longer open, there is room for one.
			for p := range points {
				done(t, s.Undo(points-1-p))
			}
			play(t, s, r, "0=2", "t")
			if want := (manyDifs - count) * asNumber(points == 0); len(s.Difs()) != want {
				t.Fatal(len(s.Difs()), want)
			}
			play(t, s, r, "1#2", "t")
		}
	}
}

// P14.1: as many as may be are looked at again, and each of them may be the one that bars.
func TestEachOfManyBars(t *testing.T) {
	s, r := full(t, manyDifs)
	difs := s.Difs()
	before := s.Dump()
	for i, pair := range difs {
		if ok, err := s.Tell(r[0], pair[1]); ok || err != nil {
			t.Fatal(i, ok, err)
		}
	}
	wantUnchanged(t, "barred", s, before)
	play(t, s, r, "0=1", "t")
	if !slices.Equal(s.Difs(), difs) {
		t.Fatal(pairsText(s.Difs()))
	}
	play(t, s, r, "1=3", "t")
	wantDifs(t, s, r, "")
}
