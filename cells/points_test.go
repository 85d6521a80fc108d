package cells_test

import (
	"math"
	"slices"
	"strconv"
	"testing"

	"tendril/cells"
)

// point makes a point and stops the test unless it has this number.
func point(t *testing.T, h *cells.Heap, want int) {
	t.Helper()
	if got, err := h.Point(); err != nil || got != want || h.Points() != want+1 {
		t.Fatalf("Point: %d, %v, %d points, want %d", got, err, h.Points(), want)
	}
}

// P11.1: writes are trailed where there is a point, and the place is below the newest point's Top.
func TestTrailed(t *testing.T) {
	h := holding(t, "X Y f(3) a f(5) b: 0 1 2 4")
	wantLaid(t, h, "ref 4, ref 5, str 6, str 8, ref 4, ref 5, fun 0/1, atom 1, fun 0/1, atom 2 |  |  | f a b")
	// Without a point.
	wantNil(t, "Bind", h.Bind(1, 7))
	wantLaid(t, h, "ref 4, ref 5, str 6, str 8, ref 4, atom 1, fun 0/1, atom 1, fun 0/1, atom 2 |  |  | f a b")
	point(t, h, 0)
	// Below the point's Top, a variable and a functor.
	wantNil(t, "Bind", h.Bind(0, 9))
	wantNil(t, "Merge", h.Merge(2, 3))
	wantLaid(t, h, "ref 4, ref 5, str 6, str 8, atom 2, atom 1, fun 0/1, atom 1, fwd 6, atom 2 | 4 ref 4, 8 fun 0/1 | 0 10 | f a b")
	// Just at Top, and above: the words of what came behind the point.
	put(t, h, "X:0")
	put(t, h, "f(1) X: 0")
	wantNil(t, "Bind", h.Bind(10, 0))
	wantNil(t, "Merge", h.Merge(12, 2))
	wantLaid(t, h, "ref 4, ref 5, str 6, str 8, atom 2, atom 1, fun 0/1, atom 1, fwd 6, atom 2, ref 11, atom 2, str 13, fwd 6, ref 15, ref 15 | 4 ref 4, 8 fun 0/1 | 0 10 | f a b")
	if h.Writes() != 5 {
		t.Error(h.Writes())
	}
	// A newer point has a greater Top.
	point(t, h, 1)
	wantNil(t, "Bind", h.Bind(14, 1))
	wantLaid(t, h, "ref 4, ref 5, str 6, str 8, atom 2, atom 1, fun 0/1, atom 1, fwd 6, atom 2, ref 11, atom 2, str 13, fwd 6, ref 15, atom 1 | 4 ref 4, 8 fun 0/1, 15 ref 15 | 0 10, 2 16 | f a b")
}

// P11.1: the last word below a point's Top is trailed, the one at Top isn't; and when the newest point goes, the one below it counts.
func TestTrailedEdge(t *testing.T) {
	h := holding(t, "X: 0")
	point(t, h, 0)
	put(t, h, "X: 0")
	wantNil(t, "Bind", h.Bind(1, 2))
	wantLaid(t, h, "ref 1, ref 1, ref 3, ref 1 |  | 0 2 | ")
	put(t, h, "a X: 0 1")
	wantNil(t, "Bind", h.Bind(0, 4))
	wantLaid(t, h, "ref 1, atom 0, ref 3, ref 1, atom 0, ref 6, ref 6 | 1 ref 1 | 0 2 | a")
	point(t, h, 1)
	wantNil(t, "Release", h.Release(1))
	wantNil(t, "Bind", h.Bind(5, 4))
	wantLaid(t, h, "ref 1, atom 0, ref 3, ref 1, atom 0, ref 6, atom 0 | 1 ref 1 | 0 2 | a")
	wantNil(t, "Release", h.Release(0))
	put(t, h, "X: 0")
	wantNil(t, "Bind", h.Bind(7, 4))
	wantLaid(t, h, "ref 1, atom 0, ref 3, ref 1, atom 0, ref 6, atom 0, ref 8, atom 0 | 1 ref 1 |  | a")
	point(t, h, 0)
	if d := h.Dump(); d.Marks[0].Trail != 1 || d.Marks[0].Top != 9 {
		t.Error(laid(d))
	}
	wantNil(t, "Undo", h.Undo(0))
	wantLaid(t, h, "ref 1, atom 0, ref 3, ref 1, atom 0, ref 6, atom 0, ref 8, atom 0 | 1 ref 1 | 1 9 | a")
}

// tower is a heap with four points, each behind a Put, a Bind of a variable that is older and a Merge; and what the heap was at each point, laid open.
func tower(t *testing.T) (*cells.Heap, []string) {
	t.Helper()
	h := holding(t, "W X Y Z f(6) f(6) a: 0 1 2 3 4 5")
	var then []string
	for i := range 4 {
		point(t, h, i)
		then = append(then, laid(h.Dump()))
		places := put(t, h, "f(1) X: 0 1")
		wantNil(t, "Bind", h.Bind(i, places[i%2]))
		if i%2 == 0 {
			wantNil(t, "Merge", h.Merge(4, places[0]))
		} else {
			wantNil(t, "Merge", h.Merge(5, 4))
		}
	}
	return h, then
}

// P11.4: Undo of the first point, of one in the midst, of the last one, twice, and one below the other; the point stays, those above it are gone, and the names stay.
func TestUndo(t *testing.T) {
	_, then := tower(t)
	for i := range then {
		h, _ := tower(t)
		writes := h.Writes()
		for range 2 {
			wantNil(t, "Undo", h.Undo(i))
			wantLaid(t, h, then[i][:len(then[i])-len(namesOf(then[i]))]+marksUpTo(t, i)+" | f a")
		}
		if h.Points() != i+1 || h.Writes() != writes {
			t.Errorf("%d points, %d writes", h.Points(), h.Writes())
		}
		for k := i + 1; k < 5; k++ {
			wantErr(t, "Undo", h.Undo(k), refused(errPoint, k))
		}
		for k := i; k >= 0; k-- {
			wantNil(t, "Undo", h.Undo(k))
			wantLaid(t, h, then[k][:len(then[k])-len(namesOf(then[k]))]+marksUpTo(t, k)+" | f a")
		}
	}
}

// namesOf is the end of a heap's text, its points and names.
func namesOf(s string) string {
	bars := 0
	for i := range s {
		if s[i] == '|' {
			bars++
			if bars == 2 {
				return s[i+2:]
			}
		}
	}
	return ""
}

// marksUpTo is the points of a tower from 0 up to one, as text.
func marksUpTo(t *testing.T, last int) string {
	t.Helper()
	h, _ := tower(t)
	out := ""
	for i, m := range h.Dump().Marks[:last+1] {
		if i > 0 {
			out += ", "
		}
		out += strconv.Itoa(m.Trail) + " " + strconv.Itoa(m.Top)
	}
	return out
}

// P11.1: Undo, spelt out word by word; Writes counts what was undone.
func TestUndoSpelt(t *testing.T) {
	h := holding(t, "X f(0): 0 1")
	wantLaid(t, h, "ref 2, str 3, ref 2, fun 0/1, ref 2 |  |  | f")
	point(t, h, 0)
	put(t, h, "f(1) b: 0")
	wantNil(t, "Merge", h.Merge(1, 5))
	point(t, h, 1)
	wantNil(t, "Bind", h.Bind(0, 1))
	put(t, h, "c: 0")
	wantLaid(t, h, "ref 2, str 3, str 3, fun 0/1, ref 2, str 6, fwd 3, atom 1, atom 2 | 2 ref 2 | 0 5, 0 8 | f b c")
	wantNil(t, "Undo", h.Undo(1))
	wantLaid(t, h, "ref 2, str 3, ref 2, fun 0/1, ref 2, str 6, fwd 3, atom 1 |  | 0 5, 0 8 | f b c")
	wantNil(t, "Bind", h.Bind(0, 7))
	wantNil(t, "Undo", h.Undo(0))
	wantLaid(t, h, "ref 2, str 3, ref 2, fun 0/1, ref 2 |  | 0 5 | f b c")
	if h.Writes() != 3 {
		t.Error(h.Writes())
	}
	// Names that are known have their numbers still.
	put(t, h, "c d: 1 0")
	wantLaid(t, h, "ref 2, str 3, ref 2, fun 0/1, ref 2, atom 3, atom 2 |  | 0 5 | f b c d")
}

// P11.1: Undo to a point behind the Release of a newer one: what was trailed under the newer one goes back, though it lies above the older one's Top.
func TestUndoBehindRelease(t *testing.T) {
	h := holding(t, "X: 0")
	point(t, h, 0)
	put(t, h, "Y f(1) a: 0 1")
	point(t, h, 1)
	wantNil(t, "Bind", h.Bind(2, 3))
	wantNil(t, "Bind", h.Bind(0, 6))
	wantLaid(t, h, "ref 1, str 5, ref 4, str 5, str 5, fun 0/1, str 5 | 4 ref 4, 1 ref 1 | 0 2, 0 7 | f")
	wantNil(t, "Release", h.Release(1))
	wantLaid(t, h, "ref 1, str 5, ref 4, str 5, str 5, fun 0/1, str 5 | 4 ref 4, 1 ref 1 | 0 2 | f")
	wantNil(t, "Undo", h.Undo(0))
	wantLaid(t, h, "ref 1, ref 1 |  | 0 2 | f")
}

// P11.1: Release of the first point, of one in the midst, of the last one: they and those above are gone, and nothing else changes.
func TestRelease(t *testing.T) {
	for i := range 4 {
		h, then := tower(t)
		before := h.Dump()
		wantNil(t, "Release", h.Release(i))
		after := h.Dump()
		before.Marks = before.Marks[:i]
		if laid(after) != laid(before) || h.Points() != i {
			t.Fatalf("Release(%d): %s, want %s", i, laid(after), laid(before))
		}
		wantErr(t, "Release", h.Release(i), refused(errPoint, i))
		wantErr(t, "Undo", h.Undo(i), refused(errPoint, i))
		if i > 0 {
			wantNil(t, "Undo", h.Undo(i-1))
			if got, want := h.Dump(), then[i-1]; laid(got)[:len(want)-len(namesOf(want))] != want[:len(want)-len(namesOf(want))] {
				t.Errorf("%s, want %s", laid(got), want)
			}
			continue
		}
		point(t, h, 0)
	}
}

// P11.1: points that there aren't.
func TestNoPoint(t *testing.T) {
	none := heap(t, 5)
	h, _ := tower(t)
	before := laid(h.Dump())
	for _, i := range []int{-1, -2, 4, 5, 1 << 32, math.MaxInt, math.MinInt} {
		for _, x := range []*cells.Heap{none, h} {
			wantErr(t, "Undo", x.Undo(i), refused(errPoint, i))
			wantErr(t, "Release", x.Release(i), refused(errPoint, i))
		}
	}
	wantErr(t, "Undo", none.Undo(0), refused(errPoint, 0))
	wantErr(t, "Release", none.Release(0), refused(errPoint, 0))
	wantLaid(t, h, before)
	wantLaid(t, none, " |  |  | ")
}

// P11.1: many points of one state, and of an empty heap.
func TestManyPoints(t *testing.T) {
	h := heap(t, 10)
	for i := range 5000 {
		point(t, h, i)
	}
	put(t, h, "X a: 0 1")
	wantNil(t, "Undo", h.Undo(4321))
	if h.Points() != 4322 || h.Top() != 0 {
		t.Error(h.Points(), h.Top())
	}
	wantNil(t, "Undo", h.Undo(0))
	wantLaid(t, h, " |  | 0 0 | a")
}

// bools is a list of what is kept from a text of 1 and 0.
func bools(s string) []bool {
	var out []bool
	for i := range s {
		out = append(out, s[i] == '1')
	}
	return out
}

// wantSlide stops the test unless Slide answers these places.
func wantSlide(t *testing.T, h *cells.Heap, keep, want string) {
	t.Helper()
	if got, err := h.Slide(bools(keep)); err != nil || !slices.Equal(got, numbers(want)) {
		t.Fatalf("Slide(%s): %v, %v, want %s", keep, got, err, want)
	}
}

// wantTorn stops the test unless Slide refuses a list by this place.
func wantTorn(t *testing.T, h *cells.Heap, keep string, at int) {
	t.Helper()
	before := laid(h.Dump())
	got, err := h.Slide(bools(keep))
	wantErr(t, "Slide("+keep+")", err, refused(errKeep, at))
	if len(got) > 0 {
		t.Fatalf("%v beside an error", got)
	}
	wantLaid(t, h, before)
}

// P11.1: Slide with a list that has not one entry for each allocated word, whatever it says.
func TestSlideLength(t *testing.T) {
	h := holding(t, "f(1,2) X a: 0")
	for _, keep := range []string{"", "1", "0", "0000", "1111", "000000", "111111", "1111111111"} {
		wantTorn(t, h, keep, len(keep))
	}
	long := make([]bool, manyWords)
	_, err := h.Slide(long)
	wantErr(t, "Slide", err, refused(errKeep, manyWords))
	wantSlide(t, h, "11111", "0 1 2 3 4")
	empty := heap(t, 5)
	wantTorn(t, empty, "1", 1)
	wantTorn(t, empty, "0", 1)
	wantSlide(t, empty, "", "")
	wantLaid(t, empty, " |  |  | ")
}

// P11.1: a word that is kept and reaches one that isn't: each kind of word, the first such place.
func TestSlideTorn(t *testing.T) {
	h := holding(t, "f(1,2) X a: 0 1", "f(1,1) b: 0", "Y: 0")
	wantNil(t, "Merge", h.Merge(0, 6))
	wantNil(t, "Bind", h.Bind(10, 1))
	wantLaid(t, h, "str 2, ref 5, fun 0/2, ref 5, atom 1, ref 5, str 7, fwd 2, atom 2, atom 2, ref 11, ref 5 |  |  | f a b")
	wantTorn(t, h, "100000000000", 0)  // str
	wantTorn(t, h, "010000000000", 1)  // ref
	wantTorn(t, h, "001000000000", 2)  // fun
	wantTorn(t, h, "001100000000", 2)  // fun, an argument is missing
	wantTorn(t, h, "001010000000", 2)  // fun, another
	wantTorn(t, h, "001110000000", 3)  // the variable is missing
	wantTorn(t, h, "000000100000", 6)  // str to a forward
	wantTorn(t, h, "000000010000", 7)  // fwd
	wantTorn(t, h, "000000110000", 7)  // the first such place, not the first that is kept
	wantTorn(t, h, "000000000010", 10) // ref to a variable that is bound
	wantTorn(t, h, "000000000011", 11)
	wantTorn(t, h, "110111111111", 0)
	wantTorn(t, h, "010111111111", 7)
	wantTorn(t, h, "111110111111", 1)
	wantTorn(t, h, "001110111111", 3)
	wantTorn(t, h, "000100000011", 3)
	// What reaches nothing may be kept alone; a forward needs no arguments.
	wantSlide(t, h, "001111110011", "-1 -1 0 1 2 3 4 5 -1 -1 6 7")
	wantLaid(t, h, "fun 0/2, ref 3, atom 1, ref 3, str 5, fwd 0, ref 7, ref 3 |  |  | f a b")
	wantGet(t, h, "4 6", "f(1,2) X a: 0 1")
	wantSlide(t, h, "00100000", "-1 -1 0 -1 -1 -1 -1 -1")
	wantLaid(t, h, "atom 1 |  |  | f a b")
	wantGet(t, h, "0", "a: 0")
}

// P11.1: a word that reaches what isn't kept by the trail's word alone; the first place is told, be it by the trail or as the words are now.
func TestSlideTornByTrail(t *testing.T) {
	h := holding(t, "f(1) a f(3) b X Y: 4 0 2 5")
	point(t, h, 0)
	wantNil(t, "Merge", h.Merge(1, 2))
	wantNil(t, "Bind", h.Bind(3, 0))
	wantNil(t, "Bind", h.Bind(0, 6))
	wantLaid(t, h, "ref 4, str 5, str 7, ref 9, atom 1, fun 0/1, atom 1, fwd 5, atom 2, ref 4 | 7 fun 0/1, 9 ref 9, 4 ref 4 | 0 10 | f a b")
	wantTorn(t, h, "0000011100", 7)
	wantTorn(t, h, "0010011100", 7)
	wantTorn(t, h, "0000000110", 7) // as it is now, and not by the trail
	wantTorn(t, h, "0001000000", 3)
	wantTorn(t, h, "0001011101", 7) // ahead of 9, which refers to 4 now
	wantTorn(t, h, "1000011100", 0)
	wantTorn(t, h, "1000111100", 7)
	wantTorn(t, h, "0000000001", 9)
	// Released points leave the trail, and what it reaches.
	wantNil(t, "Release", h.Release(0))
	wantTorn(t, h, "0000011100", 7)
	wantSlide(t, h, "0000011110", "-1 -1 -1 -1 -1 0 1 2 3 -1")
	wantLaid(t, h, "fun 0/1, atom 1, fwd 0, atom 2 | 2 fun 0/1 |  | f a b")
}

// P11.1: Slide that keeps all changes nothing; Slide that keeps none leaves the points, the names and Writes.
func TestSlideAllAndNone(t *testing.T) {
	h, then := tower(t)
	writes, before := h.Writes(), laid(h.Dump())
	keep := slices.Repeat([]bool{true}, h.Top())
	to, err := h.Slide(keep)
	if err != nil || !slices.Equal(to, numbers(upTo(h.Top()))) {
		t.Fatal(to, err)
	}
	wantLaid(t, h, before)
	wantNil(t, "Undo", h.Undo(2))
	if got := laid(h.Dump()); got[:20] != then[2][:20] {
		t.Error(got)
	}
	clear(keep)
	keep = keep[:h.Top()]
	to, err = h.Slide(keep)
	if err != nil || !slices.Equal(to, slices.Repeat([]int{-1}, len(keep))) {
		t.Fatal(to, err)
	}
	wantLaid(t, h, " |  | 0 0, 0 0, 0 0 | f a")
	if h.Writes() != writes || h.Max() != 100 {
		t.Error(h.Writes(), h.Max())
	}
	if got := put(t, h, "X a: 0 1"); !slices.Equal(got, []int{0, 1}) {
		t.Error(got)
	}
	wantNil(t, "Undo", h.Undo(1))
	wantLaid(t, h, " |  | 0 0, 0 0 | f a")
}

// P11.1, P11.4, P11.5: Slide with points: entries of the trail whose place isn't kept are dropped, the others told anew; each point's Top becomes the number of words kept below it; Undo behind it.
func TestSlideUndo(t *testing.T) {
	build := func() *cells.Heap {
		h := holding(t, "W X Y: 0 1 2")
		point(t, h, 0)
		put(t, h, "f(1) a: 0")
		wantNil(t, "Bind", h.Bind(0, 6))
		point(t, h, 1)
		put(t, h, "f(1) b: 0")
		wantNil(t, "Bind", h.Bind(1, 9))
		wantNil(t, "Merge", h.Merge(6, 9))
		point(t, h, 2)
		wantNil(t, "Bind", h.Bind(2, 11))
		wantLaid(t, h, "ref 3, ref 4, ref 5, str 7, str 10, atom 2, str 7, fun 0/1, atom 1, str 10, fwd 7, atom 2 | 3 ref 3, 4 ref 4, 5 ref 5 | 0 6, 1 9, 2 12 | f a b")
		return h
	}
	h := build()
	// W, its term and X stay; Y and its entry go.
	wantSlide(t, h, "110110011010", "0 1 -1 2 3 -1 -1 4 5 -1 6 -1")
	wantLaid(t, h, "ref 2, ref 3, str 4, str 6, fun 0/1, atom 1, fwd 4 | 2 ref 2, 3 ref 3 | 0 4, 1 6, 2 7 | f a b")
	wantGet(t, h, "0 1", "f(1) a: 0 0")
	wantNil(t, "Undo", h.Undo(2))
	wantLaid(t, h, "ref 2, ref 3, str 4, str 6, fun 0/1, atom 1, fwd 4 | 2 ref 2, 3 ref 3 | 0 4, 1 6, 2 7 | f a b")
	wantNil(t, "Undo", h.Undo(1))
	wantLaid(t, h, "ref 2, ref 3, str 4, ref 3, fun 0/1, atom 1 | 2 ref 2 | 0 4, 1 6 | f a b")
	wantNil(t, "Undo", h.Undo(0))
	wantLaid(t, h, "ref 2, ref 3, ref 2, ref 3 |  | 0 4 | f a b")

	h = build()
	// Y alone, and what it is: the entries ahead of its own go, so the points are told anew by what is left ahead of them.
	wantSlide(t, h, "001001000001", "-1 -1 0 -1 -1 1 -1 -1 -1 -1 -1 2")
	wantLaid(t, h, "ref 1, atom 2, atom 2 | 1 ref 1 | 0 2, 0 2, 0 3 | f a b")
	wantNil(t, "Undo", h.Undo(2))
	wantLaid(t, h, "ref 1, ref 1, atom 2 |  | 0 2, 0 2, 0 3 | f a b")
	wantNil(t, "Undo", h.Undo(1))
	wantLaid(t, h, "ref 1, ref 1 |  | 0 2, 0 2 | f a b")
	// What is written behind a Slide is trailed by the points' new Top.
	put(t, h, "c X: 0 1")
	wantNil(t, "Bind", h.Bind(3, 2))
	wantNil(t, "Bind", h.Bind(0, 2))
	wantLaid(t, h, "ref 1, atom 3, atom 3, ref 4, atom 3 | 1 ref 1 | 0 2, 0 2 | f a b c")
}

// P11.5: a heap as great as it may be is slid together; places go on to be told right.
func TestSlideGreat(t *testing.T) {
	h := heap(t, manyWords)
	for range 6 {
		g := of(nil, 0)
		for i := range most {
			g.Nodes = append(g.Nodes, c("f", (i+1)%most))
		}
		putGraph(t, h, g)
	}
	top := h.Top()
	keep := make([]bool, top)
	for at := top / 6 * 5; at < top; at++ {
		keep[at] = true
	}
	to, err := h.Slide(keep)
	if err != nil || h.Top() != top/6 || to[top-1] != top/6-1 || to[0] != -1 || to[top/6*5] != 0 {
		t.Fatal(h.Top(), err)
	}
	wantGet(t, h, "0", "f(0): 0")
	wantReach(t, h, "0", 1+2*most)
	if why := unsound(h.Dump()); why != "" {
		t.Error(why)
	}
}
