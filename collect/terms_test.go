package collect_test

import (
	"slices"
	"testing"

	"tendril/collect"
)

// P15.1, P15.3: the chapter's first example.
func TestTwoTerms(t *testing.T) {
	s, r := holding(t, "f(1) a: 0")
	r = append(r, put(t, s, made("g(1) X: 0"))...)
	if !slices.Equal(r, []int{0, 3}) || s.Top() != 7 {
		t.Fatal(r, s.Top())
	}
	wantCount(t, s, []int{0}, 3)
	wantCount(t, s, []int{3}, 4)
	wantCount(t, s, []int{3, 0}, 7)
	wantCount(t, s, nil, 0)
	wantRun(t, s, "3", 4, "0", "str 1, fun 2/1, ref 3, ref 3 |  |  | f a g | ")
	wantGet(t, s, []int{0}, "g(1) X: 0")
	wantRun(t, s, "", 0, "", " |  |  | f a g | ")
	// There is room again from 0 on.
	if r := put(t, s, made("f(1) a: 0")); !slices.Equal(r, []int{0}) || s.Top() != 3 {
		t.Error(r, s.Top())
	}
}

// P15.1, P15.2: the chapter's second example.
func TestBoundBehindThePoint(t *testing.T) {
	s, r := holding(t, "X")
	point(t, s, 0)
	r = append(r, put(t, s, made("a"))...)
	play(t, s, r, "0=1", "t")
	wantRun(t, s, "0", 2, "0", "ref 1, atom 0 | 1 ref 1 | 0 2 | a | ")
	wantGet(t, s, []int{0}, "a")
	done(t, s.Undo(0))
	wantLaid(t, s, "ref 1, ref 1 |  | 0 2 | a | ")
	wantGet(t, s, []int{0}, "X")
	// The variable's own word is a cell, too.
	play(t, s, append([]int{1}, put(t, s, made("a"))...), "0=1", "t")
	wantRun(t, s, "1", 1, "0", "atom 0 | 0 ref 0 | 0 1 | a | ")
	done(t, s.Undo(0))
	wantLaid(t, s, "ref 0 |  | 0 1 | a | ")
}

// P15.1: each kind of a term, as the one root among others, and as one of several.
func TestEachKind(t *testing.T) {
	const all = "X a -7 f(0) g(0,1,2,3,4,5,6,7) f(1) h(3,5) b"
	// The roots' cells stand at 0 to 7, X at 8, f(X) at 9, g at 11, f(a) at 20, h at 22.
	for _, x := range []struct {
		roots  string
		count  int
		places string
	}{
		{"0", 2, "0"}, {"1", 1, "0"}, {"2", 1, "0"}, {"7", 1, "0"},
		{"3", 4, "0"}, {"5", 3, "0"}, {"6", 9, "0"},
		{"4", 18, "0"},
		{"1 2", 2, "0 1"}, {"2 1", 2, "1 0"}, {"7 0", 3, "1 0"}, {"0 3", 5, "0 1"}, {"3 0", 5, "1 0"},
		{"8", 1, "0"}, {"8 0", 2, "1 0"},
		{"0 1 2 3 4 5 6 7", 25, "0 1 2 3 4 5 6 7"},
	} {
		s, _ := holding(t, all)
		before := terms(t, s, numbers(x.roots))
		wantCount(t, s, numbers(x.roots), x.count)
		got := run(t, s, numbers(x.roots))
		if !slices.Equal(got, numbers(x.places)) || s.Top() != x.count {
			t.Errorf("Run(%s): %v, %d words", x.roots, got, s.Top())
		}
		if now := terms(t, s, got); now != before {
			t.Errorf("Run(%s): %s, want %s", x.roots, now, before)
		}
	}
}

// P15.1: a root twice, and more often, has its place as often.
func TestOneRootTwice(t *testing.T) {
	// The roots' cells stand at 0 to 3, f(Y) at 4, Y at 6, X at 7.
	for _, x := range []struct {
		roots  string
		count  int
		places string
	}{
		{"1 1", 4, "0 0"}, {"1 1 1 1", 4, "0 0 0 0"}, {"1 2 1", 6, "0 1 0"}, {"2 1 2", 6, "1 0 1"}, {"0 2 2 0", 3, "0 1 1 0"}, {"7 7", 1, "0 0"}, {"7 2 7", 2, "1 0 1"},
	} {
		s, _ := holding(t, "a f(3) X Y")
		wantCount(t, s, numbers(x.roots), x.count)
		if got := run(t, s, numbers(x.roots)); !slices.Equal(got, numbers(x.places)) {
			t.Errorf("Run(%s): %v, want %s", x.roots, got, x.places)
		}
	}
}

// P15.1, P15.2, P15.3: terms that share parts.
func TestSharedParts(t *testing.T) {
	// f's functor is at 2, h's at 4, X at 6, g's at 7.
	const all = "f(2) g(2,3) h(3) X: 0 1"
	s, _ := holding(t, all)
	wantRun(t, s, "0", 6, "0", "str 1, fun 0/1, str 3, fun 1/1, ref 5, ref 5 |  |  | f h g | ")
	s, _ = holding(t, all)
	wantRun(t, s, "1", 7, "0", "str 4, fun 1/1, ref 3, ref 3, fun 2/2, str 1, ref 3 |  |  | f h g | ")
	s, _ = holding(t, all)
	wantRun(t, s, "1 0", 10, "1 0", "str 2, str 7, fun 0/1, str 4, fun 1/1, ref 6, ref 6, fun 2/2, str 4, ref 6 |  |  | f h g | ")
	wantGet(t, s, []int{0, 1}, "f(1) h(2) X g(1,2): 0 3")
	// What the two share is kept by the one that stays, and is one thing for both.
	play(t, s, append([]int{0, 6}, put(t, s, made("a"))...), "1=2", "t")
	wantGet(t, s, []int{0, 1}, "f(1) h(2) a g(1,2): 0 3")
}

// P15.1, P15.2: cells of arguments as roots, without the compounds in which they stand, and with them.
func TestArgumentsAsRoots(t *testing.T) {
	// g's functor is at 1, its arguments at 2 to 4, f's functor at 5, its argument at 6, X at 7.
	const all = "g(1,2,3) a f(3) X: 0"
	s, _ := holding(t, all)
	wantRun(t, s, "3", 4, "0", "str 1, fun 2/1, ref 3, ref 3 |  |  | g a f | ")
	s, _ = holding(t, all)
	wantRun(t, s, "2 4", 3, "0 1", "atom 1, ref 2, ref 2 |  |  | g a f | ")
	s, _ = holding(t, all)
	wantRun(t, s, "6 2", 3, "1 0", "atom 1, ref 2, ref 2 |  |  | g a f | ")
	s, _ = holding(t, all)
	wantRun(t, s, "4 0 2", 8, "4 0 2", "str 1, fun 0/3, atom 1, str 5, ref 7, fun 2/1, ref 7, ref 7 |  |  | g a f | ")
}

// P15.1, P15.2: circles, as they are put down and as they are told.
func TestCircles(t *testing.T) {
	s, _ := holding(t, "f(0,1) g(0): 0 1")
	wantRun(t, s, "1", 6, "0", "str 4, fun 0/2, str 1, str 4, fun 1/1, str 1 |  |  | f g | ")
	wantGet(t, s, []int{0}, "g(1) f(1,0): 0")

	// X's word is at 2, f's functor at 3.
	s, r := holding(t, "X f(0)")
	play(t, s, r, "0=1", "t")
	wantRun(t, s, "0", 4, "0", "ref 1, str 2, fun 0/1, ref 1 |  |  | f | ")
	wantGet(t, s, []int{0}, "f(0): 0")
	s, r = holding(t, "X f(0)")
	play(t, s, r, "0=1", "t")
	wantRun(t, s, "4", 3, "2", "str 1, fun 0/1, ref 0 |  |  | f | ")
	wantGet(t, s, []int{2}, "f(0): 0")

	// Behind a point the circle is one that can be undone.
	s, r = holding(t, "a X f(1)")
	point(t, s, 0)
	play(t, s, r, "1=2", "t")
	wantRun(t, s, "1 2", 5, "0 1", "ref 2, str 3, str 3, fun 1/1, ref 2 | 2 ref 2 | 0 5 | a f | ")
	wantGet(t, s, []int{0, 1}, "f(0): 0 0")
	done(t, s.Undo(0))
	wantGet(t, s, []int{0, 1}, "X f(0)")

	// A circle that nothing leads to goes, however its parts lead to one another.
	s, _ = holding(t, "a f(2,1) g(1): 1 2 0")
	wantRun(t, s, "2", 1, "0", "atom 2 |  |  | f g a | ")
}

// P15.1, P15.2: terms that were made one: all references between them stay, and forwards, but not the arguments that no forward leads to.
func TestMadeOne(t *testing.T) {
	s, r := holding(t, "X Y Z")
	play(t, s, r, "1=2 0=1", "tt")
	wantRun(t, s, "2", 4, "0", "ref 3, ref 1, ref 1, ref 2 |  |  |  | ")
	s, r = holding(t, "X Y Z")
	play(t, s, r, "1=2 0=1", "tt")
	wantRun(t, s, "0", 2, "0", "ref 1, ref 1 |  |  |  | ")

	// The functors are at 2 and 5, X is at 4.
	const all = "f(2) f(3) X a: 0 1"
	s, r = holding(t, all)
	play(t, s, r, "0=1", "t")
	wantRun(t, s, "1", 5, "0", "str 4, fun 0/1, ref 3, atom 1, fwd 1 |  |  | f a | ")
	wantGet(t, s, []int{0}, "f(1) a: 0")
	s, r = holding(t, all)
	play(t, s, r, "0=1", "t")
	wantRun(t, s, "0", 4, "0", "str 1, fun 0/1, ref 3, atom 1 |  |  | f a | ")
	s, r = holding(t, all)
	play(t, s, r, "0=1", "t")
	// The cell of an argument that is otherwise gone.
	wantRun(t, s, "6", 1, "0", "atom 1 |  |  | f a | ")

	// A forward to a forward, to a functor.
	s, r = holding(t, "f(3) f(4) f(5) X Y Z: 0 1 2")
	play(t, s, r, "1=2 0=1", "tt")
	wantRun(t, s, "2", 6, "0", "str 5, fun 0/1, ref 3, ref 3, fwd 1, fwd 4 |  |  | f | ")
	wantGet(t, s, []int{0}, "f(1) X: 0")
}

// P15.1: without roots nothing stays but what disequalities want; points stay, at the place 0.
func TestNoRoots(t *testing.T) {
	s := empty(t, 10)
	wantRun(t, s, "", 0, "", " |  |  |  | ")
	point(t, s, 0)
	wantRun(t, s, "", 0, "", " |  | 0 0 |  | ")

	s, r := holding(t, "X a f(0)")
	point(t, s, 0)
	play(t, s, r, "0=1", "t")
	point(t, s, 1)
	put(t, s, made("b"))
	wantRun(t, s, "", 0, "", " |  | 0 0, 0 0 | a f b | ")
	done(t, s.Undo(1))
	done(t, s.Undo(0))
	wantLaid(t, s, " |  | 0 0 | a f b | ")

	s, r = holding(t, "b X a f(1)")
	play(t, s, r, "2#1", "t")
	wantRun(t, s, "", 3, "", "ref 2, atom 1, ref 2 |  |  | b a f | 1-0")
}

// P15.1: all kinds of empty lists are the same.
func TestEmptyLists(t *testing.T) {
	for _, roots := range [][]int{nil, {}, make([]int, 0, 5)} {
		s, _ := holding(t, "X a")
		if count, err := collect.Count(s, roots); count != 0 || err != nil {
			t.Error(count, err)
		}
		if places, err := collect.Run(s, roots); len(places) != 0 || err != nil || s.Top() != 0 {
			t.Error(places, err, s.Top())
		}
	}
}

// P15.3: the words that stay keep their order, whatever the order of the roots.
func TestOrder(t *testing.T) {
	const all = "a b c d X f(4) 7"
	for _, x := range []struct{ roots, places string }{
		{"0 1 2 3", "0 1 2 3"}, {"3 2 1 0", "3 2 1 0"}, {"3 0", "1 0"}, {"6 5 1", "2 1 0"}, {"2 6 0 4", "1 3 0 2"}, {"6", "0"},
	} {
		s, _ := holding(t, all)
		before := terms(t, s, numbers(x.roots))
		got := run(t, s, numbers(x.roots))
		if !slices.Equal(got, numbers(x.places)) || terms(t, s, got) != before {
			t.Errorf("Run(%s): %v, want %s", x.roots, got, x.places)
		}
	}
}

// P15.1: what is reachable is kept whole where all of a full store is, and room for one word is room.
func TestFull(t *testing.T) {
	s := empty(t, 8)
	r := put(t, s, made("X Y a f(0)"))
	if s.Top() != 8 {
		t.Fatal(s.Top())
	}
	wantRun(t, s, "3 2 1 0", 8, "3 2 1 0", laid(s.Dump()))
	if _, err := s.Put(made("b")); err == nil {
		t.Error("there is room")
	}
	if got := run(t, s, r[1:]); s.Top() != 7 || !slices.Equal(got, []int{0, 1, 2}) {
		t.Error(s.Top(), got)
	}
	if r := put(t, s, made("b")); !slices.Equal(r, []int{7}) {
		t.Error(r)
	}
	wantGet(t, s, []int{0, 1, 2, 7}, "X a f(3) Y b: 0 1 2 4")
}
