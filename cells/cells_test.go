package cells_test

import (
	"errors"
	"math"
	"slices"
	"strconv"
	"strings"
	"testing"

	"tendril/api"
	"tendril/bisim"
	"tendril/cells"
	"tendril/graph"
)

// The limits and the numbers are spelt here, apart from the program.
const (
	most      = 4096  // nodes, and roots
	manyWords = 65536 // words of an arena
	manyNames = 1024
	widest    = 8
	longest   = 32 // bytes of a name
	great     = 1 << 50

	kVar  = 1
	kAtom = 2
	kInt  = 3
	kComp = 4

	errNil   = 1
	errMax   = 20
	errFull  = 22
	errNames = 31
	errGraph = 40
	errNodes = 41
	errRoots = 42
	errRoot  = 43
	errNew   = 110
	errPut   = 111
	errRoom  = 112
	errCell  = 113
	errBound = 114
	errMerge = 115
	errPoint = 116
	errLarge = 117
	errKeep  = 118
)

// Nodes.
func v() api.Node                                { return api.Node{Kind: kVar} }
func a(name string) api.Node                     { return api.Node{Kind: kAtom, Name: name} }
func n(num int) api.Node                         { return api.Node{Kind: kInt, Num: num} }
func c(name string, args ...int) api.Node        { return api.Node{Kind: kComp, Name: name, Args: args} }
func nodes(list ...api.Node) []api.Node          { return list }
func of(list []api.Node, roots ...int) api.Graph { return api.Graph{Nodes: list, Roots: roots} }

// node is a node from a short text: X a variable, a an atom, -7 an integer, f(1,2) a compound.
func node(s string) api.Node {
	name, rest, comp := strings.Cut(s, "(")
	if comp {
		out := c(name)
		for arg := range strings.SplitSeq(strings.TrimSuffix(rest, ")"), ",") {
			out.Args = append(out.Args, number(arg))
		}
		return out
	}
	if num, err := strconv.Atoi(s); err == nil {
		return n(num)
	}
	if s[0] >= 'A' && s[0] <= 'Z' {
		return v()
	}
	return a(name)
}

func number(s string) int {
	num, err := strconv.Atoi(s)
	if err != nil {
		panic(err)
	}
	return num
}

func numbers(s string) []int {
	var out []int
	for x := range strings.FieldsSeq(s) {
		out = append(out, number(x))
	}
	return out
}

// made is a graph from its nodes and its roots, with blanks between.
func made(list, roots string) api.Graph {
	g := api.Graph{Roots: numbers(roots)}
	for s := range strings.FieldsSeq(list) {
		g.Nodes = append(g.Nodes, node(s))
	}
	return g
}

// telling is all that a graph says.
func telling(g api.Graph) string {
	var out strings.Builder
	for _, m := range g.Nodes {
		out.WriteString(strconv.Itoa(m.Kind) + " " + strconv.Quote(m.Name) + " " + strconv.Itoa(m.Num))
		for _, arg := range m.Args {
			out.WriteString(" " + strconv.Itoa(arg))
		}
		out.WriteString("; ")
	}
	out.WriteString("roots")
	for _, r := range g.Roots {
		out.WriteString(" " + strconv.Itoa(r))
	}
	return out.String()
}

// short is a text as it is told when a test fails.
func short(s string) string {
	if len(s) > 600 {
		return s[:600] + ".. of " + strconv.Itoa(len(s)) + " bytes"
	}
	return s
}

// tell is a word as text.
func tell(w uint64) string {
	value := valueOf(w)
	if tagOf(w) == tagFun {
		return "fun " + strconv.Itoa(value/16) + "/" + strconv.Itoa(value%16)
	}
	return []string{"ref ", "atom ", "int ", "str ", "fun ", "fwd ", "bad ", "bad "}[tagOf(w)] + strconv.Itoa(value)
}

// laid is a dump as text: the words; the trail, each entry's place with its word; of each point the trail's length and Top; the names.
func laid(d api.Dump) string {
	var words, trail, marks []string
	for _, w := range d.Words {
		words = append(words, tell(w))
	}
	for _, s := range d.Trail {
		trail = append(trail, strconv.Itoa(s.At)+" "+tell(s.Old))
	}
	for _, m := range d.Marks {
		marks = append(marks, strconv.Itoa(m.Trail)+" "+strconv.Itoa(m.Top))
		if len(m.Difs) > 0 {
			marks = append(marks, "with disequalities")
		}
	}
	out := strings.Join(words, ", ") + " | " + strings.Join(trail, ", ") + " | " + strings.Join(marks, ", ") + " | " + strings.Join(d.Names, " ")
	if len(d.Difs) > 0 {
		out += " | disequalities"
	}
	return out
}

// heap is a new heap of a size.
func heap(t *testing.T, max int) *cells.Heap {
	t.Helper()
	h, err := cells.New(max)
	if err != nil || h == nil {
		t.Fatalf("New(%d): %v, %v", max, h, err)
	}
	return h
}

// holding is a heap of 100 words in which graphs, told by their nodes and roots with a : between, were put down one after the other.
func holding(t *testing.T, graphs ...string) *cells.Heap {
	t.Helper()
	h := heap(t, 100)
	for _, s := range graphs {
		put(t, h, s)
	}
	return h
}

// put puts a graph down, told by its nodes and roots with a : between.
func put(t *testing.T, h *cells.Heap, s string) []int {
	t.Helper()
	list, roots, _ := strings.Cut(s, ":")
	return putGraph(t, h, made(list, roots))
}

func putGraph(t *testing.T, h *cells.Heap, g api.Graph) []int {
	t.Helper()
	want, err := h.Need(g)
	if err != nil {
		t.Fatalf("Need: %v", err)
	}
	top := h.Top()
	got, err := h.Put(g)
	if err != nil || len(got) != len(g.Roots) || h.Top() != top+want {
		t.Fatalf("Put(%s): %v, %v, Top %d, want %d", short(telling(g)), got, err, h.Top(), top+want)
	}
	for i, at := range got {
		if at != top+i {
			t.Fatalf("Put(%s): %v, want the places from %d on", short(telling(g)), got, top)
		}
	}
	return got
}

// isRefusal tells whether an error is a fault itself that tells just this; the zero refusal is nil.
func isRefusal(err error, want refusal) bool {
	if want == (refusal{}) {
		return err == nil
	}
	f, ok := err.(*api.Fault)
	if !ok || f == nil || f.Code != api.Errno(want.code) || f.At != want.at || f.Name != "" || !errors.Is(err, api.Errno(want.code)) {
		return false
	}
	if want.cause == 0 {
		return f.Cause == nil
	}
	cause, ok := f.Cause.(*api.Fault)
	return ok && cause != nil && cause.Code == api.Errno(want.cause) && cause.At == want.causeAt && cause.Name == want.name && cause.Cause == nil && errors.Is(err, api.Errno(want.cause))
}

// wantErr stops the test unless an error tells this.
func wantErr(t *testing.T, call string, err error, want refusal) {
	t.Helper()
	if !isRefusal(err, want) {
		t.Fatalf("%s: %v, want %+v", short(call), err, want)
	}
}

// wantNil stops the test if there is an error.
func wantNil(t *testing.T, call string, err error) {
	t.Helper()
	wantErr(t, call, err, refusal{})
}

// wantLaid stops the test unless a heap is this, laid open as text, and sound (P11.3).
func wantLaid(t *testing.T, h *cells.Heap, want string) {
	t.Helper()
	d := h.Dump()
	if got := laid(d); got != want {
		t.Fatalf("the heap is\n%s, want\n%s", short(got), short(want))
	}
	if why := unsound(d); why != "" {
		t.Fatal(why)
	}
	if h.Top() != len(d.Words) || h.Points() != len(d.Marks) {
		t.Fatalf("Top %d and Points %d, of %d words and %d marks", h.Top(), h.Points(), len(d.Words), len(d.Marks))
	}
}

// wantGet stops the test unless cells, told by their places, hold this graph, told by its nodes and roots.
func wantGet(t *testing.T, h *cells.Heap, places, want string) {
	t.Helper()
	list, roots, _ := strings.Cut(want, ":")
	g, err := h.Get(numbers(places)...)
	if err != nil || !graph.Same(g, made(list, roots)) {
		t.Fatalf("Get(%s): %s, %v, want %s", places, telling(g), err, telling(made(list, roots)))
	}
}

// wantLook stops the test unless Look answers this.
func wantLook(t *testing.T, h *cells.Heap, at int, want api.Cell) {
	t.Helper()
	got, err := h.Look(at)
	if err != nil || !sameCell(got, want) {
		t.Fatalf("Look(%d): %+v, %v, want %+v", at, got, err, want)
	}
}

func sameCell(x, y api.Cell) bool {
	return x.Kind == y.Kind && x.At == y.At && x.Name == y.Name && x.Num == y.Num && slices.Equal(x.Args, y.Args)
}

// wantReach stops the test unless so many words are reachable from cells, told by their places.
func wantReach(t *testing.T, h *cells.Heap, places string, want int) {
	t.Helper()
	if got, err := h.Reach(numbers(places)...); err != nil || got != want {
		t.Fatalf("Reach(%s): %d, %v, want %d", places, got, err, want)
	}
}

// P11.1: New takes the sizes that arena.New takes, and refuses the others; beside an error there is no heap.
func TestNew(t *testing.T) {
	for _, max := range []int{1, 2, 20, manyWords - 1, manyWords} {
		h := heap(t, max)
		if h.Max() != max || h.Top() != 0 || h.Points() != 0 || h.Writes() != 0 {
			t.Errorf("New(%d): Max %d, Top %d, Points %d, Writes %d", max, h.Max(), h.Top(), h.Points(), h.Writes())
		}
		wantLaid(t, h, " |  |  | ")
	}
	for _, max := range []int{0, -1, -2, manyWords + 1, 1 << 32, 1<<32 + 1, math.MinInt, math.MaxInt} {
		h, err := cells.New(max)
		wantErr(t, "New", err, refusal{errNew, max, errMax, max, ""})
		if h != nil {
			t.Errorf("New(%d) has a heap beside its error", max)
		}
	}
}

// P11.1: the first and the second example of the chapter.
func TestExamples(t *testing.T) {
	h := heap(t, 20)
	g := made("f(1,1) X", "0")
	if want, err := h.Need(g); want != 5 || err != nil {
		t.Fatal(want, err)
	}
	put(t, h, "f(1,1) X: 0")
	wantLaid(t, h, "str 1, fun 0/2, ref 4, ref 4, ref 4 |  |  | f")
	wantGet(t, h, "0", "f(1,1) X: 0")
	wantLook(t, h, 0, api.Cell{Kind: kComp, At: 1, Name: "f", Args: []int{2, 3}})
	wantLook(t, h, 2, api.Cell{Kind: kVar, At: 4})
	_, err := h.Look(1)
	wantErr(t, "Look(1)", err, refused(errCell, 0))

	if p, err := h.Point(); p != 0 || err != nil {
		t.Fatal(p, err)
	}
	if got := put(t, h, "a: 0"); !slices.Equal(got, []int{5}) {
		t.Fatal(got)
	}
	wantNil(t, "Bind(4, 5)", h.Bind(4, 5))
	wantGet(t, h, "0", "f(1,1) a: 0")
	wantLaid(t, h, "str 1, fun 0/2, ref 4, ref 4, atom 1, atom 1 | 4 ref 4 | 0 5 | f a")
	if h.Writes() != 1 {
		t.Error(h.Writes())
	}
	wantErr(t, "Bind(4, 0)", h.Bind(4, 0), refused(errBound, 0))
	wantNil(t, "Undo(0)", h.Undo(0))
	if h.Top() != 5 {
		t.Error(h.Top())
	}
	wantGet(t, h, "0", "f(1,1) X: 0")
	wantLaid(t, h, "str 1, fun 0/2, ref 4, ref 4, ref 4 |  | 0 5 | f a")
	wantNil(t, "Bind(2, 0)", h.Bind(2, 0))
	wantGet(t, h, "0", "f(0,0): 0")
	wantLaid(t, h, "str 1, fun 0/2, ref 4, ref 4, str 1 | 4 ref 4 | 0 5 | f a")
	if h.Writes() != 2 {
		t.Error(h.Writes())
	}
}

// P11.1: the third example of the chapter, either way round.
func TestMergeExample(t *testing.T) {
	for _, pair := range [][2]int{{0, 3}, {3, 0}} {
		h := holding(t, "f(1) a: 0", "f(1) b: 0")
		wantNil(t, "Merge", h.Merge(pair[0], pair[1]))
		wantLaid(t, h, "str 1, fun 0/1, atom 1, str 4, fwd 1, atom 2 |  |  | f a b")
		wantGet(t, h, "0 3", "f(1) a: 0 0")
		wantGet(t, h, "5", "b: 0")
		wantReach(t, h, "3", 4)
		wantReach(t, h, "0", 3)
		wantReach(t, h, "0 3", 5)
		wantLook(t, h, 3, api.Cell{Kind: kComp, At: 1, Name: "f", Args: []int{2}})
	}
}

// P11.1, P11.2: graphs as they are put down, word by word, and as they are read back; names come in the order of meeting, from what is met alone.
func TestPut(t *testing.T) {
	for _, x := range []struct{ g, want, get string }{
		{"", " |  |  | ", ""},
		{"X a f(0):", " |  |  | ", ""},
		{"X: 0", "ref 1, ref 1 |  |  | ", "X: 0"},
		{"X: 0 0", "ref 2, ref 2, ref 2 |  |  | ", "X: 0 0"},
		{"X Y: 1 0", "ref 2, ref 3, ref 2, ref 3 |  |  | ", "X Y: 0 1"},
		{"a: 0", "atom 0 |  |  | a", "a: 0"},
		{"a b a: 2 1 0 2", "atom 0, atom 1, atom 0, atom 0 |  |  | a b", "a b: 0 1 0 0"},
		{"b a: 1 0", "atom 0, atom 1 |  |  | a b", "a b: 0 1"},
		{"7 -7 0: 0 1 2 0", "int 7, int -7, int 0, int 7 |  |  | ", "7 -7 0: 0 1 2 0"},
		{"f(0): 0", "str 1, fun 0/1, str 1 |  |  | f", "f(0): 0"},
		{"f(0): 0 0", "str 2, str 2, fun 0/1, str 2 |  |  | f", "f(0): 0 0"},
		{"f(1) f(0): 0 1", "str 2, str 4, fun 0/1, str 4, fun 0/1, str 2 |  |  | f", "f(0): 0 0"},
		{"X f(0): 1", "str 1, fun 0/1, ref 3, ref 3 |  |  | f", "f(1) X: 0"},
		{"X f(0): 0 1", "ref 2, str 3, ref 2, fun 0/1, ref 2 |  |  | f", "X f(0): 0 1"},
		{"c f(2) a g(1,4,2) b X: 3", "str 1, fun 0/3, str 5, atom 3, atom 2, fun 1/1, atom 2 |  |  | g f a b", "g(1,3,2) f(2) a b: 0"},
		{"f(1,2) g(3) h(3) X: 0", "str 1, fun 0/2, str 4, str 7, fun 1/1, ref 6, ref 6, fun 2/1, ref 6 |  |  | f g h", "f(1,3) g(2) X h(2): 0"},
		{"f(1,2) g(3) g(4) X X: 0", "str 1, fun 0/2, str 4, str 7, fun 1/1, ref 6, ref 6, fun 1/1, ref 9, ref 9 |  |  | f g", "f(1,3) g(2) X g(4) X: 0"},
		{"f(1,2) g(3) g(3) X: 0", "str 1, fun 0/2, str 4, str 7, fun 1/1, ref 6, ref 6, fun 1/1, ref 6 |  |  | f g", "f(1,1) g(2) X: 0"},
		{"f(1,2,3,4,0,1,2,3) a 5 X f: 0 4", "str 2, atom 0, fun 0/8, atom 1, int 5, ref 11, atom 0, str 2, atom 1, int 5, ref 11, ref 11 |  |  | f a", "f(1,2,3,4,0,1,2,3) a 5 X f: 0 4"},
		{"a f(0) f(0,0) f: 3 1 2", "atom 0, str 3, str 5, fun 0/1, atom 1, fun 0/2, atom 1, atom 1 |  |  | f a", "f f(2) a f(2,2): 0 1 3"},
	} {
		h := heap(t, 100)
		places := put(t, h, x.g)
		wantLaid(t, h, x.want)
		list, roots, _ := strings.Cut(x.get, ":")
		if g, err := h.Get(places...); err != nil || !graph.Same(g, made(list, roots)) {
			t.Errorf("%s: Get: %s, %v", x.g, telling(g), err)
		}
		if h.Writes() != 0 {
			t.Errorf("%s: %d writes", x.g, h.Writes())
		}
	}
}

// P11.1: graphs are put down one behind the other; names that are there keep their numbers, new ones come behind them.
func TestPutAgain(t *testing.T) {
	h := holding(t, "f(1) a: 0", "a f(2) b f: 1 0 3 2", "X:", "", "g(1) X: 1 0")
	wantLaid(t, h, "str 1, fun 0/1, atom 1, str 7, atom 1, atom 0, atom 2, fun 0/1, atom 2, ref 11, str 12, ref 11, fun 3/1, ref 11 |  |  | f a b g")
	wantGet(t, h, "0 3 4 5 6 9 10", "f(1) a f(3) b f X g(5): 0 2 1 4 3 5 6")
}

// P11.1: the greatest of all that a graph may hold: the longest name, the widest compound, the greatest integers.
func TestGreatestThings(t *testing.T) {
	name := strings.Repeat("~", longest)
	g := of(nodes(c(name, 1, 2, 3, 4, 5, 6, 7, 0), n(great), n(-great), a(name), a("!"), v(), n(great-1), n(1-great)), 0)
	h := heap(t, 11)
	putGraph(t, h, g)
	wantLaid(t, h, "str 1, fun 0/8, int 1125899906842624, int -1125899906842624, atom 0, atom 1, ref 10, int 1125899906842623, int -1125899906842623, str 1, ref 10 |  |  | "+name+" !")
	if got, err := h.Get(0); err != nil || !graph.Same(got, g) {
		t.Error(telling(got), err)
	}
	wantLook(t, h, 2, api.Cell{Kind: kInt, At: -1, Num: great})
	wantLook(t, h, 3, api.Cell{Kind: kInt, At: -1, Num: -great})
	wantLook(t, h, 4, api.Cell{Kind: kAtom, At: -1, Name: name})
	wantLook(t, h, 9, api.Cell{Kind: kComp, At: 1, Name: name, Args: []int{2, 3, 4, 5, 6, 7, 8, 9}})
}

// P11.1, P11.2: the greatest graph that may be is put down, as deep as it goes, and read back.
func TestGreatestGraph(t *testing.T) {
	g := of(nil, make([]int, most)...)
	for i := range most {
		m := c("f"+strconv.Itoa(i%100), slices.Repeat([]int{(i + 1) % most}, widest)...)
		g.Nodes = append(g.Nodes, m)
	}
	h := heap(t, manyWords)
	if want, err := h.Need(g); want != most+most*9 || err != nil {
		t.Fatal(want, err)
	}
	places := putGraph(t, h, g)
	want, err := bisim.Quotient(g)
	if err != nil {
		t.Fatal(err)
	}
	if got, err := h.Get(places...); err != nil || !graph.Same(got, want) {
		t.Errorf("%s, %v", short(telling(got)), err)
	}
	wantReach(t, h, "0", 1+most*9)
	if got, err := h.Reach(places...); got != most*10 || err != nil {
		t.Error(got, err)
	}
	if why := unsound(h.Dump()); why != "" {
		t.Error(why)
	}
}

// P11.1: Look at each kind, straight, through references and through forwards.
func TestLook(t *testing.T) {
	h := holding(t, "X Y a 7 f(0,2): 0 1 2 3 4", "f(1,0) b: 0", "f(1,1) c: 0")
	wantLaid(t, h, "ref 5, ref 6, atom 0, int 7, str 7, ref 5, ref 6, fun 1/2, ref 5, atom 0, str 11, fun 1/2, atom 2, str 11, str 15, fun 1/2, atom 3, atom 3 |  |  | a f b c")
	atom, num := api.Cell{Kind: kAtom, At: -1, Name: "a"}, api.Cell{Kind: kInt, At: -1, Num: 7}
	wantLook(t, h, 0, api.Cell{Kind: kVar, At: 5})
	wantLook(t, h, 5, api.Cell{Kind: kVar, At: 5})
	wantLook(t, h, 2, atom)
	wantLook(t, h, 3, num)
	wantLook(t, h, 4, api.Cell{Kind: kComp, At: 7, Name: "f", Args: []int{8, 9}})
	wantLook(t, h, 10, api.Cell{Kind: kComp, At: 11, Name: "f", Args: []int{12, 13}})
	// Y refers to X, and X is f(X, a).
	wantNil(t, "Bind", h.Bind(1, 0))
	wantLook(t, h, 1, api.Cell{Kind: kVar, At: 5})
	wantLook(t, h, 6, api.Cell{Kind: kVar, At: 5})
	wantNil(t, "Bind", h.Bind(6, 4))
	for _, at := range []int{0, 1, 4, 5, 6, 8} {
		wantLook(t, h, at, api.Cell{Kind: kComp, At: 7, Name: "f", Args: []int{8, 9}})
	}
	// The last is forwarded to the one in the midst, and that to the first.
	wantNil(t, "Merge", h.Merge(10, 14))
	wantLook(t, h, 14, api.Cell{Kind: kComp, At: 11, Name: "f", Args: []int{12, 13}})
	wantNil(t, "Merge", h.Merge(14, 1))
	wantLaid(t, h, "ref 5, ref 6, atom 0, int 7, str 7, str 7, ref 5, fun 1/2, ref 5, atom 0, str 11, fwd 7, atom 2, str 11, str 15, fwd 11, atom 3, atom 3 |  |  | a f b c")
	for _, at := range []int{10, 13, 14, 0} {
		wantLook(t, h, at, api.Cell{Kind: kComp, At: 7, Name: "f", Args: []int{8, 9}})
	}
	wantGet(t, h, "14 12 16 13 9 3", "f(0,1) a b c 7: 0 2 3 0 1 4")
}

// P11.1: which places are cells': not those of functors and forwards, not those below 0, at Top and above.
func TestCell(t *testing.T) {
	h := holding(t, "f(1,2) X 5: 0 1", "f(1,1) a: 0")
	wantLaid(t, h, "str 2, ref 5, fun 0/2, ref 5, int 5, ref 5, str 7, fun 0/2, atom 1, atom 1 |  |  | f a")
	wantNil(t, "Merge", h.Merge(6, 0))
	for at := -3; at < 20; at++ {
		if got := h.Cell(at); got != (at >= 0 && at < 10 && at != 2 && at != 7) {
			t.Errorf("Cell(%d): %v", at, got)
		}
	}
	for _, at := range []int{math.MinInt, math.MaxInt, manyWords, manyWords - 1, -manyWords, 1 << 32, 1<<32 + 1} {
		if h.Cell(at) {
			t.Errorf("Cell(%d)", at)
		}
	}
}

// P11.1: what is no cell's place is refused by each call that takes one, and which argument it is is told: the first.
func TestNoCell(t *testing.T) {
	h := holding(t, "f(1,2) X 5: 0 1", "f(1,1) a: 0")
	wantNil(t, "Merge", h.Merge(6, 0))
	h.Point()
	before := laid(h.Dump())
	for _, bad := range []int{2, 7, -1, -2, 10, 11, 100, manyWords, math.MaxInt, math.MinInt} {
		c, err := h.Look(bad)
		wantErr(t, "Look", err, refused(errCell, 0))
		if !sameCell(c, api.Cell{}) {
			t.Error(c)
		}
		wantErr(t, "Bind", h.Bind(bad, 1), refused(errCell, 0))
		wantErr(t, "Bind", h.Bind(1, bad), refused(errCell, 1))
		wantErr(t, "Bind", h.Bind(0, bad), refused(errCell, 1))
		wantErr(t, "Bind", h.Bind(bad, bad), refused(errCell, 0))
		wantErr(t, "Merge", h.Merge(bad, 0), refused(errCell, 0))
		wantErr(t, "Merge", h.Merge(0, bad), refused(errCell, 1))
		wantErr(t, "Merge", h.Merge(1, bad), refused(errCell, 1))
		wantErr(t, "Merge", h.Merge(bad, bad), refused(errCell, 0))
		for at := range 4 {
			places := []int{0, 1, 6, 5}
			places[at] = bad
			for also := at; also < 4; also++ {
				places[also] = bad
				g, err := h.Get(places...)
				wantErr(t, "Get", err, refused(errCell, at))
				count, err := h.Reach(places...)
				wantErr(t, "Reach", err, refused(errCell, at))
				if len(g.Nodes)+len(g.Roots) > 0 || count != 0 {
					t.Error(g, count)
				}
			}
		}
		// Ahead of there being too many.
		many := append(make([]int, 2*most), bad)
		_, err = h.Get(many...)
		wantErr(t, "Get", err, refused(errCell, 2*most))
		_, err = h.Reach(many...)
		wantErr(t, "Reach", err, refused(errCell, 2*most))
	}
	wantLaid(t, h, before)
	if h.Writes() != 1 {
		t.Error(h.Writes())
	}
}

// P11.1: Get and Reach of no cells, of one several times, and of as many as there may be.
func TestHowManyCells(t *testing.T) {
	h := holding(t, "f(1,0) X: 0 1")
	wantGet(t, h, "", "")
	wantReach(t, h, "", 0)
	wantGet(t, h, "0 0 1 0 1", "f(1,0) X: 0 0 1 0 1")
	wantReach(t, h, "0 0 1 0 1", 6)
	for _, count := range []int{most - 1, most, most + 1, most + 2, 3 * most} {
		places := make([]int, count)
		places[count-1] = 1
		g, err := h.Get(places...)
		if count > most {
			wantErr(t, "Get", err, refused(errLarge, count))
			if len(g.Nodes)+len(g.Roots) > 0 {
				t.Error(short(telling(g)))
			}
		} else if err != nil || len(g.Roots) != count || g.Roots[count-1] != 1 || len(g.Nodes) != 2 {
			t.Error(count, short(telling(g)), err)
		}
		if reach, err := h.Reach(places...); reach != 6 || err != nil {
			t.Error(count, reach, err)
		}
	}
}

// P11.1: Get tells how many nodes there are if they are too many: each free variable, each place of a compound, be they alike or not, and each atom and integer once; a variable that is bound is none.
func TestHowManyNodes(t *testing.T) {
	h := heap(t, manyWords)
	// Two times 2046 compounds which are alike, with an atom and an integer at their ends.
	g := of(nil, 0)
	for i := range 2046 {
		g.Nodes = append(g.Nodes, c("f", i+1, 2047))
	}
	g.Nodes = append(g.Nodes, a("a"), n(3))
	one, other := putGraph(t, h, g)[0], putGraph(t, h, g)[0]
	// Two variables, and f(X, Y) with a place of its own.
	x := putGraph(t, h, made("X Y", "0 1"))
	rest := putGraph(t, h, made("a 3 b f(2,0)", "0 1 2 3"))
	check := func(want int, places ...int) {
		t.Helper()
		g, err := h.Get(places...)
		if want > most {
			wantErr(t, "Get", err, refused(errLarge, want))
			if len(g.Nodes)+len(g.Roots) > 0 {
				t.Fatal(short(telling(g)))
			}
		} else if err != nil || len(g.Roots) != len(places) {
			t.Fatalf("%v: %s, %v, want %d nodes", places, short(telling(g)), err, want)
		}
	}
	check(4094, one, other)
	check(4094, one, other, rest[0], rest[1], one)
	check(4095, one, other, x[0])
	check(4096, one, other, x[0], x[1], x[1])
	check(4096, one, x[0], other, rest[2])
	check(4097, one, other, x[0], x[1], rest[2])
	check(4098, one, x[0], other, x[1], rest[3])
	wantNil(t, "Bind", h.Bind(x[0], x[1]))
	check(4095, one, other, x[0], x[1])
	check(4097, one, other, x[0], x[1], rest[3])
	wantNil(t, "Bind", h.Bind(x[0], rest[2]))
	check(4096, one, other, x[0], x[1], rest[3])
	wantNil(t, "Merge", h.Merge(one, other))
	check(4095, one, other, x[0], x[1], rest[3])
	// Far too many: the whole heap.
	h = heap(t, manyWords)
	var all []int
	for range 7 {
		all = append(all, putGraph(t, h, of(append([]api.Node{c("f", 1, 2, 3, 4, 5, 6, 7, 8)}, slices.Repeat(nodes(v()), most-1)...), numbers(upTo(most))...))...)
	}
	_, err := h.Get(all[:most]...)
	wantNil(t, "Get", err)
	// The compound's eight variables are met, though they are no roots.
	_, err = h.Get(slices.Concat(all[:1], all[9:most], all[most+9:most+17])...)
	wantErr(t, "Get", err, refused(errLarge, most+8))
	_, err = h.Get(all...)
	wantErr(t, "Get", err, refused(errLarge, 7*most))
}

// upTo is the numbers below one, as text.
func upTo(count int) string {
	var out []string
	for i := range count {
		out = append(out, strconv.Itoa(i))
	}
	return strings.Join(out, " ")
}

// P11.1: more nodes than may be told, and all of them integers or atoms.
func TestHowManyConstants(t *testing.T) {
	h := heap(t, manyWords)
	var cellsOf []int
	for k := range 2 {
		g := of(nil, 0)
		for i := range most / 2 {
			g.Nodes = append(g.Nodes, c("f", i+1, i+1))
		}
		for i := range most/2 - 1 {
			g.Nodes[i].Args[0] = most/2 + 1 + i%(most/2-1)
		}
		g.Nodes = append(g.Nodes, a("end"))
		for i := range most/2 - 1 {
			g.Nodes = append(g.Nodes, n(k*most+i))
		}
		cellsOf = append(cellsOf, putGraph(t, h, g)...)
	}
	for _, at := range cellsOf {
		if g, err := h.Get(at); err != nil || len(g.Nodes) != most {
			t.Fatal(len(g.Nodes), err)
		}
	}
	_, err := h.Get(cellsOf...)
	wantErr(t, "Get", err, refused(errLarge, 2*most-1))
}

// P11.1: Reach goes through references, forwards and circles, and counts each word once; arguments of a functor that was forwarded aren't reached by it.
func TestReach(t *testing.T) {
	h := holding(t, "f(1,2) X g(0): 0 1", "f(1,2) a g(0): 0", "7 b: 0 1")
	wantLaid(t, h, "str 2, ref 5, fun 0/2, ref 5, str 6, ref 5, fun 1/1, str 2, str 9, fun 0/2, atom 2, str 12, fun 1/1, str 9, int 7, atom 3 |  |  | f g a b")
	wantReach(t, h, "0", 7)
	wantReach(t, h, "1", 2)
	wantReach(t, h, "5", 1)
	wantReach(t, h, "4", 6)
	wantReach(t, h, "7", 6)
	wantReach(t, h, "0 1", 8)
	wantReach(t, h, "8", 6)
	wantReach(t, h, "8 0", 13)
	wantReach(t, h, "14", 1)
	wantReach(t, h, "14 15", 2)
	wantNil(t, "Merge", h.Merge(0, 8))
	wantReach(t, h, "8", 8)
	wantReach(t, h, "11", 10)
	wantNil(t, "Merge", h.Merge(11, 4))
	wantReach(t, h, "11", 8)
	wantReach(t, h, "8 0", 9)
	wantNil(t, "Bind", h.Bind(1, 15))
	wantReach(t, h, "1", 2)
	wantReach(t, h, "13", 8)
}

// P11.1: Bind of a variable to itself, by any of its cells, writes nothing.
func TestBindItself(t *testing.T) {
	h := holding(t, "X f(0): 0 0 1", "Y: 0")
	h.Point()
	wantLaid(t, h, "ref 3, ref 3, str 4, ref 3, fun 0/1, ref 3, ref 7, ref 7 |  | 0 8 | f")
	for _, one := range []int{0, 1, 3, 5} {
		for _, other := range []int{0, 1, 3, 5} {
			wantNil(t, "Bind", h.Bind(one, other))
		}
	}
	wantNil(t, "Bind", h.Bind(6, 0))
	after := "ref 3, ref 3, str 4, ref 3, fun 0/1, ref 3, ref 7, ref 3 | 7 ref 7 | 0 8 | f"
	wantLaid(t, h, after)
	wantNil(t, "Bind", h.Bind(6, 0))
	wantNil(t, "Bind", h.Bind(0, 7))
	wantLaid(t, h, after)
	if h.Writes() != 1 {
		t.Error(h.Writes())
	}
}

// P11.1: of two variables that of the greater place comes to refer to the other, whichever is named first, and through others.
func TestBindVariables(t *testing.T) {
	for _, pair := range [][2]int{{0, 1}, {1, 0}, {4, 0}, {0, 4}, {3, 1}, {1, 3}, {4, 3}, {3, 4}} {
		h := holding(t, "X Y Z: 0 1 2")
		wantNil(t, "Bind", h.Bind(pair[0], pair[1]))
		wantLaid(t, h, "ref 3, ref 4, ref 5, ref 3, ref 3, ref 5 |  |  | ")
		wantGet(t, h, "0 1 2", "X Z: 0 0 1")
	}
	h := holding(t, "X Y Z: 0 1 2")
	wantNil(t, "Bind", h.Bind(1, 2))
	wantNil(t, "Bind", h.Bind(0, 2))
	wantLaid(t, h, "ref 3, ref 4, ref 5, ref 3, ref 3, ref 4 |  |  | ")
	wantGet(t, h, "2 1 0", "X: 0 0 0")
	wantLook(t, h, 2, api.Cell{Kind: kVar, At: 3})
	h = holding(t, "X Y Z: 0 1 2")
	wantNil(t, "Bind", h.Bind(0, 2))
	wantNil(t, "Bind", h.Bind(2, 1))
	wantLaid(t, h, "ref 3, ref 4, ref 5, ref 3, ref 3, ref 3 |  |  | ")
}

// P11.1: a variable's word comes to hold an atom, an integer, a compound, also one that holds it or that was forwarded; each word is told as the term, not as a reference to the cell.
func TestBindTerms(t *testing.T) {
	terms := "X a -5 f(0) f(2): 0 1 2 3 4"
	for _, x := range []struct {
		to   int
		word string
		get  string
	}{{1, "atom 0", "a: 0"}, {2, "int -5", "-5: 0"}, {3, "str 6", "f(0): 0"}, {4, "str 8", "f(1) -5: 0"}, {9, "int -5", "-5: 0"}} {
		for _, from := range []int{0, 5, 7} {
			h := holding(t, terms)
			wantNil(t, "Bind", h.Bind(from, x.to))
			wantLaid(t, h, "ref 5, atom 0, int -5, str 6, str 8, "+x.word+", fun 1/1, ref 5, fun 1/1, int -5 |  |  | a f")
			for _, places := range []string{"0", "5", "7"} {
				wantGet(t, h, places, x.get)
			}
			if h.Writes() != 1 {
				t.Error(h.Writes())
			}
			wantErr(t, "Bind", h.Bind(from, x.to), refused(errBound, 0))
		}
	}
	h := holding(t, terms, "Y: 0")
	wantNil(t, "Merge", h.Merge(3, 4))
	wantNil(t, "Bind", h.Bind(10, 4))
	wantLaid(t, h, "ref 5, atom 0, int -5, str 6, str 8, ref 5, fun 1/1, ref 5, fwd 6, int -5, ref 11, str 6 |  |  | a f")
	wantGet(t, h, "10", "f(1) X: 0")
	wantReach(t, h, "11", 4)
}

// P11.1: Bind where the first cell holds no free variable, whatever the second holds, changes nothing.
func TestBound(t *testing.T) {
	h := holding(t, "a 5 f(3) X Y: 0 1 2 3 4")
	wantNil(t, "Bind", h.Bind(4, 1))
	h.Point()
	before := laid(h.Dump())
	for _, bound := range []int{0, 1, 2, 4, 8} {
		for _, other := range []int{0, 1, 2, 3, 4, 6, 7, 8, bound} {
			wantErr(t, "Bind", h.Bind(bound, other), refused(errBound, 0))
		}
	}
	wantLaid(t, h, before)
	if h.Writes() != 1 {
		t.Error(h.Writes())
	}
	wantNil(t, "Bind", h.Bind(3, 8))
}

// P11.1: Merge of compounds of one place writes nothing, of compounds of unlike functors, and of what is no compound, is refused.
func TestMergeRefuses(t *testing.T) {
	h := holding(t, "f(1) a f(1,1) g(1) X 7 f: 0 0 2 3 4 5 6 1")
	h.Point()
	before := laid(h.Dump())
	places := []int{0, 2, 3, 4, 5, 6, 7}
	for i, one := range places {
		for k, other := range places {
			if i == k && i < 3 {
				wantNil(t, "Merge", h.Merge(one, other))
			} else {
				wantErr(t, "Merge", h.Merge(one, other), refused(errMerge, -1))
			}
		}
	}
	wantNil(t, "Merge", h.Merge(0, 1))
	wantNil(t, "Merge", h.Merge(1, 0))
	wantLaid(t, h, before)
	if h.Writes() != 0 {
		t.Error(h.Writes())
	}
}

// P11.1: Merge forwards the greater place to the lesser, whichever is named first, and through references and forwards; a second time it writes nothing.
func TestMerge(t *testing.T) {
	graphs := []string{"f(1) a: 0", "f(1) b: 0", "f(1) c: 0", "X: 0"}
	for _, x := range []struct{ pairs, want string }{
		{"3 6", "fun 0/1 fun 0/1 fwd 4"}, {"6 3", "fun 0/1 fun 0/1 fwd 4"}, {"0 6", "fun 0/1 fun 0/1 fwd 1"},
		{"6 3 3 0", "fun 0/1 fwd 1 fwd 4"}, {"6 3 6 0", "fun 0/1 fwd 1 fwd 4"}, {"6 3 0 6", "fun 0/1 fwd 1 fwd 4"},
		{"3 0 6 3", "fun 0/1 fwd 1 fwd 1"}, {"3 0 3 6", "fun 0/1 fwd 1 fwd 1"}, {"6 0 3 6", "fun 0/1 fwd 1 fwd 1"},
		{"6 0 3 0", "fun 0/1 fwd 1 fwd 1"}, {"9 0", "fun 0/1 fun 0/1 fwd 1"}, {"3 9 10 0", "fun 0/1 fwd 1 fwd 4"},
	} {
		h := holding(t, graphs...)
		wantNil(t, "Bind", h.Bind(9, 6))
		pairs := numbers(x.pairs)
		for i := 0; i < len(pairs); i += 2 {
			wantNil(t, "Merge", h.Merge(pairs[i], pairs[i+1]))
			wantNil(t, "Merge", h.Merge(pairs[i], pairs[i+1]))
			wantNil(t, "Merge", h.Merge(pairs[i+1], pairs[i]))
		}
		d := h.Dump()
		if got := tell(d.Words[1]) + " " + tell(d.Words[4]) + " " + tell(d.Words[7]); got != x.want {
			t.Errorf("%s: %s, want %s", x.pairs, got, x.want)
		}
		if h.Writes() != 1+len(pairs)/2 {
			t.Errorf("%s: %d writes", x.pairs, h.Writes())
		}
		// The least place's arguments are those of all.
		if !strings.Contains(x.want, "fun 0/1 fun") {
			wantGet(t, h, "0 3 6 9 10", "f(1) a: 0 0 0 0 0")
		}
	}
}

// P11.1: compounds that hold themselves, and each other, are made one.
func TestMergeCircles(t *testing.T) {
	h := holding(t, "f(0) f(2) f(1): 0 1 2")
	wantNil(t, "Merge", h.Merge(2, 1))
	wantLaid(t, h, "str 3, str 5, str 7, fun 0/1, str 3, fun 0/1, str 7, fwd 5, str 5 |  |  | f")
	wantGet(t, h, "0 1 2", "f(0): 0 0 0")
	wantNil(t, "Merge", h.Merge(2, 0))
	wantLaid(t, h, "str 3, str 5, str 7, fun 0/1, str 3, fwd 3, str 7, fwd 5, str 5 |  |  | f")
	wantGet(t, h, "6 8", "f(0): 0 0")
	wantReach(t, h, "2", 5)
	// A compound that is one with its own argument is that argument's place, if it is the lesser one.
	h = holding(t, "f(1) f(2) a: 0")
	wantNil(t, "Merge", h.Merge(0, 2))
	wantLaid(t, h, "str 1, fun 0/1, str 3, fwd 1, atom 1 |  |  | f a")
	wantGet(t, h, "0", "f(0): 0")
	h = holding(t, "f(0) f(1): 1 0")
	wantNil(t, "Merge", h.Merge(0, 1))
	wantGet(t, h, "0 1", "f(0): 0 0")
}

// P11.2: scattered graphs are read back as their least graphs, whatever else lies in the heap.
func TestReadBack(t *testing.T) {
	for seed := range 5000 {
		d := dice(seed)
		h := heap(t, 1000)
		var all []int
		var gs []api.Graph
		for range 4 {
			g := d.graph(14)
			gs = append(gs, g)
			places := putGraph(t, h, g)
			all = append(all, places...)
			want, err := bisim.Quotient(g)
			if err != nil {
				t.Fatal(err)
			}
			got, err := h.Get(places...)
			if err != nil || !graph.Same(got, want) || !graph.Same(got, leastOf(g)) {
				t.Fatalf("%s: %s, %v", telling(g), telling(got), err)
			}
		}
		joined, err := graph.Join(gs...)
		if err != nil {
			t.Fatal(err)
		}
		if got, err := h.Get(all...); err != nil || !graph.Same(got, leastOf(joined)) {
			t.Fatalf("%s: %s, %v", telling(joined), telling(got), err)
		}
	}
}
