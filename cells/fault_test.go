package cells_test

import (
	"math"
	"slices"
	"strconv"
	"strings"
	"testing"

	"tendril/api"
	"tendril/cells"
	"tendril/graph"
)

// wantBad stops the test unless Need and Put refuse a graph by this fault of chapter 4, in a heap that has no room for a word or a name, too, and leave the heap as it was.
func wantBad(t *testing.T, full *cells.Heap, g api.Graph, code, at int) {
	t.Helper()
	want := refusal{errPut, at, code, at, ""}
	for _, h := range []*cells.Heap{full, holding(t, "f(1) a: 0")} {
		before := laid(h.Dump())
		count, err := h.Need(g)
		wantErr(t, "Need("+telling(g)+")", err, want)
		places, err := h.Put(g)
		wantErr(t, "Put("+telling(g)+")", err, want)
		if count != 0 || len(places) > 0 {
			t.Fatal(count, places)
		}
		if after := laid(h.Dump()); after != before {
			t.Fatalf("%s, want %s", short(after), short(before))
		}
	}
	var none *cells.Heap
	_, err := none.Need(g)
	wantErr(t, "Need", err, want)
	_, err = none.Put(g)
	wantErr(t, "Put", err, refused(errNil, -1))
}

// full is a heap without room for a word or a name.
func full(t *testing.T) *cells.Heap {
	t.Helper()
	h := heap(t, 3)
	named(t, h, manyNames)
	put(t, h, "1: 0 0 0")
	return h
}

// named puts so many names into a heap of three words or more and leaves it without words; the names are n0, n1 and so on.
func named(t *testing.T, h *cells.Heap, count int) {
	t.Helper()
	p, err := h.Point()
	if err != nil {
		t.Fatal(err)
	}
	for i := range count {
		putGraph(t, h, of(nodes(a("n"+strconv.Itoa(i))), 0))
		wantNil(t, "Undo", h.Undo(p))
	}
	wantNil(t, "Release", h.Release(p))
	if d := h.Dump(); len(d.Names) != count || count > 0 && d.Names[count-1] != "n"+strconv.Itoa(count-1) {
		t.Fatalf("%d names", len(d.Names))
	}
}

// badNodes is nodes that aren't good in a graph of five, in each of the ways that chapter 4 names.
func badNodes() map[string]api.Node {
	out := map[string]api.Node{
		"nothing": {}, "no kind with a name": {Name: "a"}, "the kind -1": {Kind: -1}, "the kind 5": {Kind: 5, Name: "f", Args: []int{0}}, "the kind 257": {Kind: 257}, "the kind 1 << 32 + 4": {Kind: 1<<32 + 4, Name: "f", Args: []int{0}},
		"a variable with a name": {Kind: kVar, Name: "X"}, "a variable with a number": {Kind: kVar, Num: 1}, "a variable with arguments": {Kind: kVar, Args: []int{0}},
		"an atom with a number": {Kind: kAtom, Name: "a", Num: 1}, "an atom with arguments": {Kind: kAtom, Name: "a", Args: []int{0}},
		"an integer with a name": {Kind: kInt, Name: "1", Num: 1}, "an integer with arguments": {Kind: kInt, Num: 1, Args: []int{0}},
		"an integer too great": n(great + 1), "an integer too small": n(-great - 1), "the greatest int": n(math.MaxInt), "the least int": n(math.MinInt),
		"a compound with a number": {Kind: kComp, Name: "f", Num: -1, Args: []int{0}}, "a compound without arguments": c("f"), "a compound with no arguments": {Kind: kComp, Name: "f", Args: []int{}},
		"too many arguments": c("f", make([]int, widest+1)...), "an argument -1": c("f", 0, -1), "an argument 5": c("f", 4, 5), "the greatest argument": c("f", math.MaxInt), "the least argument": c(".", 0, math.MinInt),
	}
	for _, name := range []string{"", " ", "a b", "a\n", "\x00", "\x7f", "é", strings.Repeat("a", longest+1)} {
		out["the atom "+name] = a(name)
		out["the compound "+name] = c(name, 0)
	}
	return out
}

// P11.1, R10: nodes that aren't good, be they met from the roots or not.
func TestBadNodes(t *testing.T) {
	crammed := full(t)
	for what, bad := range badNodes() {
		t.Run(what, func(t *testing.T) {
			for at := range 5 {
				for _, roots := range [][]int{nil, {0}, {at}, {4, 3, 2, 1, 0}, {9}} {
					g := made("f(1,2) X new g(0) 7", "")
					g.Roots, g.Nodes[at] = roots, bad
					wantBad(t, crammed, g, errGraph, at)
				}
			}
		})
	}
}

// P11.1, R10: roots that are no node's number; more nodes or more roots than may be.
func TestBadGraphs(t *testing.T) {
	crammed := full(t)
	for _, bad := range []int{-1, 2, 3, most, math.MaxInt, math.MinInt} {
		for at := range 4 {
			g := made("f(1) X", "0 1 0 1")
			g.Roots[at] = bad
			wantBad(t, crammed, g, errRoot, at)
			g.Roots[3] = bad
			wantBad(t, crammed, g, errRoot, at)
			g.Nodes[1].Num = 1
			wantBad(t, crammed, g, errGraph, 1)
		}
	}
	wantBad(t, crammed, of(nil, 0), errRoot, 0)
	for _, count := range []int{most + 1, most + 2, 2 * most} {
		wantBad(t, crammed, of(make([]api.Node, count), -1), errNodes, count)
		wantBad(t, crammed, of(slices.Repeat(nodes(v()), count), make([]int, 2*most)...), errNodes, count)
		wantBad(t, crammed, of(nodes(v()), make([]int, count)...), errRoots, count)
		wantBad(t, crammed, of(nodes(api.Node{}), make([]int, count)...), errRoots, count)
	}
}

// refusedPut stops the test unless Put refuses a graph so and leaves the heap as it was, and Need doesn't refuse it.
func refusedPut(t *testing.T, h *cells.Heap, g api.Graph, want refusal) {
	t.Helper()
	before := laid(h.Dump())
	if count, err := h.Need(g); err != nil || count != need(g) {
		t.Fatalf("Need: %d, %v, want %d", count, err, need(g))
	}
	places, err := h.Put(g)
	wantErr(t, "Put("+telling(g)+")", err, want)
	if len(places) > 0 {
		t.Fatal(places)
	}
	if after := laid(h.Dump()); after != before {
		t.Fatalf("%s, want %s", short(after), short(before))
	}
}

// P11.1: a table of names that has no room: the first name for which there is none, counted in the order of meeting; refused, Put leaves the names as they were.
func TestNoNames(t *testing.T) {
	noRoom := func(name string) refusal { return refusal{errPut, -1, errNames, -1, name} }
	for _, left := range []int{0, 1, 2, 3} {
		h := heap(t, 100)
		named(t, h, manyNames-left)
		// The order of meeting is p, q, r, s, t; u isn't met, and n0 is known.
		g := made("u t q(3,4) r n0 p(2,6,1,8) s(5) q p", "5 0")
		g.Roots = g.Roots[:1]
		refusedPut(t, h, g, noRoom([]string{"p", "q", "r", "s"}[left]))
		// Refused twice the same, whatever came between.
		refusedPut(t, h, made("x y z w", "0 1 2 3"), noRoom([]string{"x", "y", "z", "w"}[left]))
		refusedPut(t, h, g, noRoom([]string{"p", "q", "r", "s"}[left]))
		// Names that are known need no room.
		putGraph(t, h, made("n0(1,2,3) X n1 n0", "0 0 2"))
		// The last that there is room for is taken.
		g = of(nil, numbers(upTo(left))...)
		for i := range left {
			g.Nodes = append(g.Nodes, a("new"+strconv.Itoa(i)))
		}
		putGraph(t, h, g)
		if d := h.Dump(); len(d.Names) != manyNames {
			t.Fatalf("%d names", len(d.Names))
		}
		putGraph(t, h, g)
		refusedPut(t, h, made("late", "0"), noRoom("late"))
		refusedPut(t, h, made("late(0)", "0"), noRoom("late"))
		putGraph(t, h, made("X 5", "0 1"))
		// What isn't met needs no name.
		putGraph(t, h, made("X late late(0)", "0"))
		// Undo gives no name back.
		h.Point()
		wantNil(t, "Undo", h.Undo(0))
		refusedPut(t, h, made("late", "0"), noRoom("late"))
	}
}

// P11.1: one graph has more names than a table holds: at first there is room for just so many.
func TestMoreNamesThanRoom(t *testing.T) {
	g := of(nil)
	for i := range manyNames + 1 {
		g.Nodes = append(g.Nodes, a("n"+strconv.Itoa(i)))
		g.Roots = append(g.Roots, i)
	}
	h := heap(t, manyWords)
	refusedPut(t, h, g, refusal{errPut, -1, errNames, -1, "n1024"})
	slices.Reverse(g.Roots)
	refusedPut(t, h, g, refusal{errPut, -1, errNames, -1, "n0"})
	g.Roots = g.Roots[:manyNames]
	putGraph(t, h, g)
	if d := h.Dump(); len(d.Names) != manyNames || d.Names[0] != "n1024" || d.Names[1023] != "n1" || d.Words[1023] != packed(tagAtom, 1023) {
		t.Error(short(laid(d)))
	}
	wantLook(t, h, 1023, api.Cell{Kind: kAtom, At: -1, Name: "n1"})
	putGraph(t, h, made("n7(0,0,0,0,0,0,0,0)", "0"))
	wantLook(t, h, 1024, api.Cell{Kind: kComp, At: 1025, Name: "n7", Args: numbers("1026 1027 1028 1029 1030 1031 1032 1033")})
}

// P11.1: an arena with just as many words left as Put wants, and with one less; refused, Put leaves the names as they were. Names that have no room come ahead of words that have none.
func TestNoRoom(t *testing.T) {
	for _, g := range []api.Graph{made("X", "0"), made("a", "0"), made("f(1,1) b", "0"), made("f(1,2) X g(0)", "0 1 2 0"), made("7", "0 0 0 0 0"), of(slices.Repeat(nodes(v()), most), numbers(upTo(most))...)} {
		want := need(g)
		for _, already := range []int{0, 1, 5} {
			roots := of(nodes(n(1)), make([]int, already)...)
			h := heap(t, already+want)
			putGraph(t, h, roots)
			putGraph(t, h, g)
			if h.Top() != h.Max() {
				t.Fatal(h.Top())
			}
			refusedPut(t, h, made("X", "0"), refusal{errRoom, 2, errFull, 2, ""})
			refusedPut(t, h, made("new", "0"), refusal{errRoom, 1, errFull, 1, ""})
			// What wants no word finds room, and brings no name.
			putGraph(t, h, made("new X", ""))
			putGraph(t, h, api.Graph{})

			if already+want == 1 {
				continue
			}
			h = heap(t, already+want-1)
			putGraph(t, h, roots)
			refusedPut(t, h, g, refusal{errRoom, want, errFull, want, ""})
			refusedPut(t, h, g, refusal{errRoom, want, errFull, want, ""})
		}
	}
	h := full(t)
	refusedPut(t, h, made("new", "0"), refusal{errPut, -1, errNames, -1, "new"})
	refusedPut(t, h, made("n3", "0"), refusal{errRoom, 1, errFull, 1, ""})
	refusedPut(t, h, made("n3 new", "0 1"), refusal{errPut, -1, errNames, -1, "new"})
	putGraph(t, h, made("new", ""))
}

// P11.1: behind Undo and behind Slide there is room again.
func TestRoomAgain(t *testing.T) {
	h := heap(t, 5)
	point(t, h, 0)
	for range 10 {
		putGraph(t, h, made("f(1,1) X", "0"))
		refusedPut(t, h, made("1", "0"), refusal{errRoom, 1, errFull, 1, ""})
		wantNil(t, "Bind", h.Bind(2, 0))
		wantNil(t, "Undo", h.Undo(0))
	}
	for range 10 {
		putGraph(t, h, made("f(1,1) X", "0"))
		wantNil(t, "Bind", h.Bind(2, 0))
		wantSlide(t, h, "00000", "-1 -1 -1 -1 -1")
	}
	wantLaid(t, h, " |  | 0 0 | f")
}

// R7: a nil heap answers as an empty one of the greatest size; a call that would change it answers ErrNil, ahead of all else.
func TestNilHeap(t *testing.T) {
	var h *cells.Heap
	if h.Max() != manyWords || h.Top() != 0 || h.Points() != 0 || h.Writes() != 0 {
		t.Error(h.Max(), h.Top(), h.Points(), h.Writes())
	}
	if got := laid(h.Dump()); got != " |  |  | " {
		t.Error(got)
	}
	for _, g := range []api.Graph{{}, made("f(1,1) X", "0"), made("a X", "")} {
		if count, err := h.Need(g); err != nil || count != need(g) {
			t.Error(count, err)
		}
	}
	for _, g := range []api.Graph{{}, made("X", "0"), made("X", "1"), of(make([]api.Node, most+1))} {
		places, err := h.Put(g)
		wantErr(t, "Put", err, refused(errNil, -1))
		if len(places) > 0 {
			t.Error(places)
		}
	}
	if g, err := h.Get(); err != nil || !graph.Same(g, api.Graph{}) {
		t.Error(telling(g), err)
	}
	wantReach(t, h, "", 0)
	for _, at := range []int{0, 1, -1, math.MaxInt, math.MinInt} {
		if h.Cell(at) {
			t.Errorf("Cell(%d)", at)
		}
		_, err := h.Look(at)
		wantErr(t, "Look", err, refused(errCell, 0))
		_, err = h.Get(at)
		wantErr(t, "Get", err, refused(errCell, 0))
		_, err = h.Get(make([]int, 2*most)...)
		wantErr(t, "Get", err, refused(errCell, 0))
		_, err = h.Reach(at, 0)
		wantErr(t, "Reach", err, refused(errCell, 0))
		wantErr(t, "Bind", h.Bind(at, 0), refused(errNil, -1))
		wantErr(t, "Merge", h.Merge(0, at), refused(errNil, -1))
		wantErr(t, "Undo", h.Undo(at), refused(errNil, -1))
		wantErr(t, "Release", h.Release(at), refused(errNil, -1))
	}
	p, err := h.Point()
	wantErr(t, "Point", err, refused(errNil, -1))
	if p != 0 {
		t.Error(p)
	}
	for _, keep := range [][]bool{nil, {}, {true}, make([]bool, 9)} {
		to, err := h.Slide(keep)
		wantErr(t, "Slide", err, refused(errNil, -1))
		if len(to) > 0 {
			t.Error(to)
		}
	}
	if got := laid(h.Dump()); got != " |  |  | " || h.Top() != 0 {
		t.Error(got)
	}
}

// P11.1: each call of an empty heap that isn't nil.
func TestEmptyHeap(t *testing.T) {
	h := heap(t, 7)
	wantGet(t, h, "", "")
	wantReach(t, h, "", 0)
	for _, at := range []int{0, 1, -1, 6, 7} {
		_, err := h.Look(at)
		wantErr(t, "Look", err, refused(errCell, 0))
		_, err = h.Get(at)
		wantErr(t, "Get", err, refused(errCell, 0))
		wantErr(t, "Bind", h.Bind(at, at), refused(errCell, 0))
		wantErr(t, "Merge", h.Merge(at, at), refused(errCell, 0))
		wantErr(t, "Undo", h.Undo(at), refused(errPoint, at))
		wantErr(t, "Release", h.Release(at), refused(errPoint, at))
	}
	wantLaid(t, h, " |  |  | ")
}
