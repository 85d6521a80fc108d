package unify_test

import (
	"errors"
	"slices"
	"strconv"
	"strings"
	"testing"

	"tendril/api"
	"tendril/cells"
	"tendril/graph"
	"tendril/solve"
	"tendril/unify"
)

// The limits and the numbers are spelt here, apart from the program.
const (
	most      = 4096  // nodes, and roots
	manyWords = 65536 // words of an arena
	widest    = 8
	longest   = 32 // bytes of a name
	great     = 1 << 50

	kVar  = 1
	kAtom = 2
	kInt  = 3
	kComp = 4

	errNil   = 1
	errCell  = 113
	errUnify = 120
)

// Nodes.
func v() api.Node                                { return api.Node{Kind: kVar} }
func a(name string) api.Node                     { return api.Node{Kind: kAtom, Name: name} }
func n(num int) api.Node                         { return api.Node{Kind: kInt, Num: num} }
func c(name string, args ...int) api.Node        { return api.Node{Kind: kComp, Name: name, Args: args} }
func nodes(list ...api.Node) []api.Node          { return list }
func of(list []api.Node, roots ...int) api.Graph { return api.Graph{Nodes: list, Roots: roots} }

// node is a node from a short text: X a variable, a an atom, -7 an integer, f(1,2) a compound.
func node(s string) api.Node {
	name, rest, comp := strings.Cut(s, "(")
	if comp {
		out := c(name)
		for arg := range strings.SplitSeq(strings.TrimSuffix(rest, ")"), ",") {
			out.Args = append(out.Args, number(arg))
		}
		return out
	}
	if num, err := strconv.Atoi(s); err == nil {
		return n(num)
	}
	if s[0] >= 'A' && s[0] <= 'Z' {
		return v()
	}
	return a(name)
}

func number(s string) int {
	num, err := strconv.Atoi(s)
	if err != nil {
		panic(err)
	}
	return num
}

func numbers(s string) []int {
	var out []int
	for x := range strings.FieldsSeq(s) {
		out = append(out, number(x))
	}
	return out
}

// made is a graph from its nodes and its roots, with blanks between, and a : ahead of the roots.
func made(s string) api.Graph {
	list, roots, _ := strings.Cut(s, ":")
	g := api.Graph{Roots: numbers(roots)}
	for s := range strings.FieldsSeq(list) {
		g.Nodes = append(g.Nodes, node(s))
	}
	return g
}

// paired is pairs from a text such as 0-1 2-3.
func paired(s string) [][2]int {
	var out [][2]int
	for x := range strings.FieldsSeq(s) {
		one, other, _ := strings.Cut(x, "-")
		out = append(out, [2]int{number(one), number(other)})
	}
	return out
}

// turned is pairs with the two of each turned about.
func turned(pairs [][2]int) [][2]int {
	var out [][2]int
	for _, pair := range pairs {
		out = append(out, [2]int{pair[1], pair[0]})
	}
	return out
}

// telling is all that a graph says.
func telling(g api.Graph) string {
	var out strings.Builder
	for _, m := range g.Nodes {
		out.WriteString(strconv.Itoa(m.Kind) + " " + strconv.Quote(m.Name) + " " + strconv.Itoa(m.Num))
		for _, arg := range m.Args {
			out.WriteString(" " + strconv.Itoa(arg))
		}
		out.WriteString("; ")
	}
	out.WriteString("roots")
	for _, r := range g.Roots {
		out.WriteString(" " + strconv.Itoa(r))
	}
	return short(out.String())
}

// short is a text as it is told when a test fails.
func short(s string) string {
	if len(s) > 600 {
		return s[:600] + ".. of " + strconv.Itoa(len(s)) + " bytes"
	}
	return s
}

// tell is a word as text.
func tell(w uint64) string {
	value := valueOf(w)
	if tagOf(w) == tagFun {
		return "fun " + strconv.Itoa(value/16) + "/" + strconv.Itoa(value%16)
	}
	return []string{"ref ", "atom ", "int ", "str ", "fun ", "fwd ", "bad ", "bad "}[tagOf(w)] + strconv.Itoa(value)
}

// laid is a dump as text: the words; the trail, each entry's place with its word; of each point the trail's length and Top; the names.
func laid(d api.Dump) string {
	var words, trail, marks []string
	for _, w := range d.Words {
		words = append(words, tell(w))
	}
	for _, s := range d.Trail {
		trail = append(trail, strconv.Itoa(s.At)+" "+tell(s.Old))
	}
	for _, m := range d.Marks {
		marks = append(marks, strconv.Itoa(m.Trail)+" "+strconv.Itoa(m.Top))
	}
	return strings.Join(words, ", ") + " | " + strings.Join(trail, ", ") + " | " + strings.Join(marks, ", ") + " | " + strings.Join(d.Names, " ")
}

// heap is a new heap of a size.
func heap(t *testing.T, max int) *cells.Heap {
	t.Helper()
	h, err := cells.New(max)
	if err != nil {
		t.Fatal(err)
	}
	return h
}

// put puts a graph down.
func put(t *testing.T, h *cells.Heap, g api.Graph) []int {
	t.Helper()
	places, err := h.Put(g)
	if err != nil {
		t.Fatalf("Put(%s): %v", telling(g), err)
	}
	return places
}

// holding is a heap of 200 words in which graphs were put down one after the other, and the places of all roots' cells.
func holding(t *testing.T, graphs ...string) (*cells.Heap, []int) {
	t.Helper()
	h := heap(t, 200)
	var all []int
	for _, s := range graphs {
		all = append(all, put(t, h, made(s))...)
	}
	return h, all
}

// done stops the test if there is an error.
func done(t *testing.T, err error) {
	t.Helper()
	if err != nil {
		t.Fatal(err)
	}
}

// placed is pairs of places from pairs of numbers in a list of places.
func placed(pairs [][2]int, list []int) [][2]int {
	var out [][2]int
	for _, pair := range pairs {
		out = append(out, [2]int{list[pair[0]], list[pair[1]]})
	}
	return out
}

// isRefusal tells whether an error is ErrUnify itself at a place, by chapter 11's ErrCell at a place.
func isRefusal(err error, at, causeAt int) bool {
	f, ok := err.(*api.Fault)
	if !ok || f == nil || f.Code != errUnify || f.At != at || f.Name != "" || !errors.Is(err, api.ErrUnify) || !errors.Is(err, api.ErrCell) {
		return false
	}
	cause, ok := f.Cause.(*api.Fault)
	return ok && cause != nil && cause.Code == errCell && cause.At == causeAt && cause.Name == "" && cause.Cause == nil
}

// isNil tells whether an error is ErrNil itself.
func isNil(err error) bool {
	f, ok := err.(*api.Fault)
	return ok && f != nil && f.Code == errNil && f.At == -1 && f.Name == "" && f.Cause == nil && errors.Is(err, api.ErrNil)
}

// way is a call that makes pairs one.
type way func(h *cells.Heap, pairs [][2]int) (bool, error)

func byUnify(h *cells.Heap, pairs [][2]int) (bool, error) {
	return unify.Unify(h, pairs[0][0], pairs[0][1])
}

// ways is the calls that can make so many pairs one.
func ways(count int) map[string]way {
	if count == 1 {
		return map[string]way{"Unify": byUnify, "All": unify.All}
	}
	return map[string]way{"All": unify.All}
}

// rooted is, for pairs of places, the pairs of those nodes that a graph has as roots for them; its roots are those of a list of places.
func rooted(pairs [][2]int, places []int, g api.Graph) [][2]int {
	root := map[int]int{}
	for i, at := range places {
		root[at] = g.Roots[i]
	}
	var out [][2]int
	for _, pair := range pairs {
		out = append(out, [2]int{root[pair[0]], root[pair[1]]})
	}
	return out
}

// wantMade makes pairs of cells one, in heaps that a function makes, the same each time. It stops the test unless all is as P12.1 to P12.4 say, by the words of the chapter and by layer 10; and tells whether the pairs can be made one.
func wantMade(t *testing.T, build func() *cells.Heap, pairs [][2]int) bool {
	t.Helper()
	h := build()
	before := open(h)
	all := before.cells()
	g := before.graph(all)
	want, can := solved(g, rooted(pairs, all, g))
	least, err := h.Get(all...)
	done(t, err)
	also, can10, err := solve.Solve(least, rooted(pairs, all, least))
	if err != nil || can10 != can || !graph.Same(also, want) {
		t.Fatalf("%v of %s: layer 10 says %v, %s, %v", pairs, laid(before.Dump), can10, telling(also), err)
	}
	for name, call := range ways(len(pairs)) {
		h := build()
		what := name + " " + short(laid(before.Dump)) + ": " + strconv.Itoa(len(pairs)) + " pairs, the first " + short(telling(of(nil, flat(pairs)...)))
		wantCall(t, what, h, call, pairs, can)
		if !can {
			continue
		}
		after := open(h)
		if got := leastOf(after.graph(all)); !graph.Same(got, want) {
			t.Fatalf("%s: the cells hold %s, want %s", what, telling(got), telling(want))
		}
		if got, err := h.Get(all...); err != nil || !graph.Same(got, want) {
			t.Fatalf("%s: Get: %s, %v, want %s", what, telling(got), err, telling(want))
		}
		wantTurned(t, what, h, build(), call, pairs, all)
		wantUndone(t, what, build, call, pairs)
	}
	return can
}

func flat(pairs [][2]int) []int {
	var out []int
	for _, pair := range pairs {
		out = append(out, pair[:]...)
	}
	return out
}

// wantCall makes a call and stops the test unless it answers so, with no more writes than words were reachable, and with nothing but words and the trail changed: behind false not these either; behind true a second call makes no write, and the trail has just what chapter 11 says.
func wantCall(t *testing.T, what string, h *cells.Heap, call way, pairs [][2]int, can bool) {
	t.Helper()
	before, writes := open(h), h.Writes()
	reach, err := h.Reach(flat(pairs)...)
	if err != nil || reach != before.reach(flat(pairs)...) {
		t.Fatalf("%s: Reach: %d, %v", what, reach, err)
	}
	ok, err := call(h, pairs)
	if ok != can || err != nil {
		t.Fatalf("%s: %v, %v, want %v", what, ok, err, can)
	}
	if made := h.Writes() - writes; made < 0 || made > reach {
		t.Fatalf("%s: %d writes, and %d words were reachable", what, made, reach)
	}
	after := open(h)
	if !can {
		wantSame(t, what, after.Dump, before.Dump)
		return
	}
	if why := after.unsound(); why != "" {
		t.Fatalf("%s: %s", what, why)
	}
	wantTrailed(t, what, before.Dump, after.Dump, h.Writes()-writes)
	writes = h.Writes()
	for _, again := range [][][2]int{pairs, turned(pairs)} {
		if ok, err := call(h, again); !ok || err != nil || h.Writes() != writes {
			t.Fatalf("%s: again: %v, %v, %d writes", what, ok, err, h.Writes()-writes)
		}
		wantSame(t, what+": again", h.Dump(), after.Dump)
	}
	for _, pair := range pairs {
		if g, err := h.Get(pair[0], pair[1]); err != nil || g.Roots[0] != g.Roots[1] {
			t.Fatalf("%s: %v hold %s, %v", what, pair, telling(g), err)
		}
	}
}

// wantSame stops the test unless two dumps are the same.
func wantSame(t *testing.T, what string, got, want api.Dump) {
	t.Helper()
	if !slices.Equal(got.Words, want.Words) || !sameBut(got, want) || !slices.Equal(got.Trail, want.Trail) {
		t.Fatalf("%s: the heap is\n%s, want\n%s", what, short(laid(got)), short(laid(want)))
	}
}

// sameBut tells whether two dumps are the same but for words and trails.
func sameBut(x, y api.Dump) bool {
	point := func(x, y api.Mark) bool { return x.Trail == y.Trail && x.Top == y.Top && len(x.Difs)+len(y.Difs) == 0 }
	return len(x.Words) == len(y.Words) && slices.EqualFunc(x.Marks, y.Marks, point) && slices.Equal(x.Names, y.Names) && len(x.Difs)+len(y.Difs) == 0
}

// wantTrailed stops the test unless a heap is the same as before but for so many words, and its trail got longer by just those below the newest point's Top.
func wantTrailed(t *testing.T, what string, before, after api.Dump, writes int) {
	t.Helper()
	if !sameBut(before, after) {
		t.Fatalf("%s: the heap was\n%s and is\n%s", what, short(laid(before)), short(laid(after)))
	}
	below := 0
	if count := len(before.Marks); count > 0 {
		below = before.Marks[count-1].Top
	}
	changed, trail := 0, map[api.Saved]int{}
	for at, w := range before.Words {
		if after.Words[at] != w {
			changed++
			if at < below {
				trail[api.Saved{At: at, Old: w}]++
			}
		}
	}
	length := len(before.Trail)
	good := changed == writes && len(after.Trail) == length+len(trail) && slices.Equal(after.Trail[:length], before.Trail)
	for _, s := range after.Trail[min(length, len(after.Trail)):] {
		good = good && trail[s] == 1
		delete(trail, s)
	}
	if !good {
		t.Fatalf("%s: %d words changed by %d writes, and the trail is\n%s, where the heap was\n%s", what, changed, writes, short(laid(after)), short(laid(before)))
	}
}

// wantTurned stops the test unless the two of each pair, turned about, leave all cells of a heap with what those of another hold in which they weren't turned.
func wantTurned(t *testing.T, what string, made, h *cells.Heap, call way, pairs [][2]int, all []int) {
	t.Helper()
	ok, err := call(h, turned(pairs))
	if !ok || err != nil {
		t.Fatalf("%s: turned: %v, %v", what, ok, err)
	}
	x, err := made.Get(all...)
	y, err2 := h.Get(all...)
	if err != nil || err2 != nil || !graph.Same(x, y) {
		t.Fatalf("%s: the cells hold %s, %v, but turned %s, %v", what, telling(x), err, telling(y), err2)
	}
}

// wantUndone stops the test unless Undo to each point leaves a heap as if the call hadn't been.
func wantUndone(t *testing.T, what string, build func() *cells.Heap, call way, pairs [][2]int) {
	t.Helper()
	for p := range build().Points() {
		h, plain := build(), build()
		if ok, err := call(h, pairs); !ok || err != nil {
			t.Fatalf("%s: %v, %v", what, ok, err)
		}
		done(t, h.Undo(p))
		done(t, plain.Undo(p))
		wantSame(t, what+": undone", h.Dump(), plain.Dump())
	}
}

// wantTerms makes pairs one of the roots' cells of graphs that are put down one after the other, with no point, and with one ahead of each graph and behind all; the want is what the roots hold then, or the empty text, if the pairs can't be made one.
func wantTerms(t *testing.T, graphs, pairs, want string) {
	t.Helper()
	list := strings.Split(graphs, " | ")
	for point := -1; point <= len(list); point++ {
		var all []int
		build := func() *cells.Heap {
			h := heap(t, 200)
			all = nil
			for i, s := range list {
				if i == point {
					h.Point()
				}
				all = append(all, put(t, h, made(s))...)
			}
			if point == len(list) {
				h.Point()
			}
			return h
		}
		h := build()
		cells := placed(paired(pairs), all)
		if can := wantMade(t, build, cells); can != (want != "") {
			t.Fatalf("%s: %s: %v", graphs, pairs, can)
		}
		ok, err := unify.All(h, cells)
		if ok != (want != "") || err != nil {
			t.Fatalf("%s: %s: %v, %v", graphs, pairs, ok, err)
		}
		if got, err := h.Get(all...); ok && (err != nil || !graph.Same(got, made(want))) {
			t.Fatalf("%s: %s: %s, %v, want %s", graphs, pairs, telling(got), err, want)
		}
	}
}
