package differ_test

import (
	"errors"
	"slices"
	"strconv"
	"strings"
	"testing"

	"tendril/api"
	"tendril/cells"
	"tendril/differ"
	"tendril/solve"
)

// The limits and the numbers are spelt here, apart from the program.
const (
	most      = 4096  // nodes, and roots
	manyWords = 65536 // words of an arena
	widest    = 8
	longest   = 32 // bytes of a name
	great     = 1 << 50

	kVar  = 1
	kAtom = 2
	kInt  = 3
	kComp = 4

	isApart = 1
	isSame  = 2
	isOpen  = 3

	errNil  = 1
	errCell = 113
	errLook = 130
)

// Nodes.
func v() api.Node                                { return api.Node{Kind: kVar} }
func a(name string) api.Node                     { return api.Node{Kind: kAtom, Name: name} }
func n(num int) api.Node                         { return api.Node{Kind: kInt, Num: num} }
func c(name string, args ...int) api.Node        { return api.Node{Kind: kComp, Name: name, Args: args} }
func nodes(list ...api.Node) []api.Node          { return list }
func of(list []api.Node, roots ...int) api.Graph { return api.Graph{Nodes: list, Roots: roots} }

// node is a node from a short text: X a variable, a an atom, -7 an integer, f(1,2) a compound.
func node(s string) api.Node {
	name, rest, comp := strings.Cut(s, "(")
	if comp {
		out := c(name)
		for arg := range strings.SplitSeq(strings.TrimSuffix(rest, ")"), ",") {
			out.Args = append(out.Args, number(arg))
		}
		return out
	}
	if num, err := strconv.Atoi(s); err == nil {
		return n(num)
	}
	if s[0] >= 'A' && s[0] <= 'Z' {
		return v()
	}
	return a(name)
}

func number(s string) int {
	num, err := strconv.Atoi(s)
	if err != nil {
		panic(err)
	}
	return num
}

func numbers(s string) []int {
	var out []int
	for x := range strings.FieldsSeq(s) {
		out = append(out, number(x))
	}
	return out
}

// made is a graph from its nodes and its roots, with blanks between, and a : ahead of the roots.
func made(s string) api.Graph {
	list, roots, _ := strings.Cut(s, ":")
	g := api.Graph{Roots: numbers(roots)}
	for s := range strings.FieldsSeq(list) {
		g.Nodes = append(g.Nodes, node(s))
	}
	return g
}

// paired is pairs from a text such as 0-1 2-3.
func paired(s string) [][2]int {
	var out [][2]int
	for x := range strings.FieldsSeq(s) {
		one, other, _ := strings.Cut(x, "-")
		out = append(out, [2]int{number(one), number(other)})
	}
	return out
}

// telling is all that a graph says.
func telling(g api.Graph) string {
	var out strings.Builder
	for _, m := range g.Nodes {
		out.WriteString(strconv.Itoa(m.Kind) + " " + strconv.Quote(m.Name) + " " + strconv.Itoa(m.Num))
		for _, arg := range m.Args {
			out.WriteString(" " + strconv.Itoa(arg))
		}
		out.WriteString("; ")
	}
	out.WriteString("roots")
	for _, r := range g.Roots {
		out.WriteString(" " + strconv.Itoa(r))
	}
	return short(out.String())
}

// said is a verdict as text: apart, same, or open with the places.
func said(x api.Verdict) string {
	out := strconv.Itoa(x.Kind)
	switch x.Kind {
	case isApart:
		out = "apart"
	case isSame:
		out = "same"
	case isOpen:
		out = "open"
	}
	for _, at := range x.Vars {
		out += " " + strconv.Itoa(at)
	}
	return short(out)
}

// short is a text as it is told when a test fails.
func short(s string) string {
	if len(s) > 600 {
		return s[:600] + ".. of " + strconv.Itoa(len(s)) + " bytes"
	}
	return s
}

// tell is a word as text.
func tell(w uint64) string {
	value := valueOf(w)
	if tagOf(w) == tagFun {
		return "fun " + strconv.Itoa(value/16) + "/" + strconv.Itoa(value%16)
	}
	return []string{"ref ", "atom ", "int ", "str ", "fun ", "fwd ", "bad ", "bad "}[tagOf(w)] + strconv.Itoa(value)
}

// laid is a dump as text: the words; the trail, each entry's place with its word; of each point the trail's length and Top; the names.
func laid(d api.Dump) string {
	var words, trail, marks []string
	for _, w := range d.Words {
		words = append(words, tell(w))
	}
	for _, s := range d.Trail {
		trail = append(trail, strconv.Itoa(s.At)+" "+tell(s.Old))
	}
	for _, m := range d.Marks {
		marks = append(marks, strconv.Itoa(m.Trail)+" "+strconv.Itoa(m.Top))
	}
	return strings.Join(words, ", ") + " | " + strings.Join(trail, ", ") + " | " + strings.Join(marks, ", ") + " | " + strings.Join(d.Names, " ")
}

// heap is a new heap of a size.
func heap(t *testing.T, max int) *cells.Heap {
	t.Helper()
	h, err := cells.New(max)
	done(t, err)
	return h
}

// put puts a graph down.
func put(t *testing.T, h *cells.Heap, g api.Graph) []int {
	t.Helper()
	places, err := h.Put(g)
	if err != nil {
		t.Fatalf("Put(%s): %v", telling(g), err)
	}
	return places
}

// holding is a heap of 200 words in which graphs were put down one after the other, and the places of all roots' cells.
func holding(t *testing.T, graphs ...string) (*cells.Heap, []int) {
	t.Helper()
	h := heap(t, 200)
	var all []int
	for _, s := range graphs {
		all = append(all, put(t, h, made(s))...)
	}
	return h, all
}

// done stops the test if there is an error.
func done(t *testing.T, err error) {
	t.Helper()
	if err != nil {
		t.Fatal(err)
	}
}

// isRefusal tells whether an error is ErrLook itself at a place, by chapter 11's ErrCell at the same.
func isRefusal(err error, at int) bool {
	f, ok := err.(*api.Fault)
	if !ok || f == nil || f.Code != errLook || f.At != at || f.Name != "" || !errors.Is(err, api.ErrLook) || !errors.Is(err, api.ErrCell) {
		return false
	}
	cause, ok := f.Cause.(*api.Fault)
	return ok && cause != nil && cause.Code == errCell && cause.At == at && cause.Name == "" && cause.Cause == nil
}

// isNil tells whether an error is ErrNil itself.
func isNil(err error) bool {
	f, ok := err.(*api.Fault)
	return ok && f != nil && f.Code == errNil && f.At == -1 && f.Name == "" && f.Cause == nil && errors.Is(err, api.ErrNil)
}

// isZero tells whether a verdict says nothing.
func isZero(x api.Verdict) bool { return x.Kind == 0 && len(x.Vars) == 0 }

// alike tells whether two verdicts say the same.
func alike(x, y api.Verdict) bool { return x.Kind == y.Kind && slices.Equal(x.Vars, y.Vars) }

// wantSame stops the test unless two dumps are the same: the words, and so Top; the trail; the points; the names.
func wantSame(t *testing.T, what string, got, want api.Dump) {
	t.Helper()
	point := func(x, y api.Mark) bool { return x.Trail == y.Trail && x.Top == y.Top && len(x.Difs)+len(y.Difs) == 0 }
	same := slices.Equal(got.Words, want.Words) && slices.Equal(got.Trail, want.Trail) && slices.EqualFunc(got.Marks, want.Marks, point) && slices.Equal(got.Names, want.Names)
	if !same || len(got.Difs)+len(want.Difs) > 0 {
		t.Fatalf("%s: the heap is\n%s, want\n%s", what, short(laid(got)), short(laid(want)))
	}
}

// wantLook stops the test unless Look of two cells answers so, each time and with the two turned, and Still says true of it; behind each call the heap is as it was.
func wantLook(t *testing.T, what string, h *cells.Heap, one, other int, want api.Verdict) {
	t.Helper()
	before, top, points, writes := h.Dump(), h.Top(), h.Points(), h.Writes()
	what += " " + strconv.Itoa(one) + " and " + strconv.Itoa(other)
	for _, pair := range [][2]int{{one, other}, {other, one}, {one, other}} {
		got, err := differ.Look(h, pair[0], pair[1])
		if err != nil || !alike(got, want) {
			t.Fatalf("%s: Look%v: %s, %v, want %s", what, pair, said(got), err, said(want))
		}
		wantSame(t, what+": Look", h.Dump(), before)
		if ok, err := differ.Still(h, got); !ok || err != nil {
			t.Fatalf("%s: Still: %v, %v", what, ok, err)
		}
		wantSame(t, what+": Still", h.Dump(), before)
	}
	if h.Top() != top || h.Points() != points || h.Writes() < writes {
		t.Fatalf("%s: Top %d, Points %d, Writes %d; there were %d, %d, %d", what, h.Top(), h.Points(), h.Writes(), top, points, writes)
	}
}

// wantVerdict looks at two cells of heaps that a function makes, the same each time. It stops the test unless the verdict is what the words of the chapter say, and what layer 10 says of the graph of these cells; with all of P13.1 and P13.3; and behind Undo to each point the heap is as if nobody had looked. It answers the verdict.
func wantVerdict(t *testing.T, build func() *cells.Heap, one, other int) api.Verdict {
	t.Helper()
	h := build()
	m := open(h)
	what := short(laid(m.Dump))
	want := m.verdict(one, other)
	if also := bySolve(t, h, one, other); !alike(also, want) {
		t.Fatalf("%s: %d and %d: layer 10 says %s, the words say %s", what, one, other, said(also), said(want))
	}
	wantLook(t, what, h, one, other, want)
	for p := h.Points() - 1; p >= 0; p-- {
		plain := build()
		done(t, plain.Undo(p))
		done(t, h.Undo(p))
		wantSame(t, what+": undone", h.Dump(), plain.Dump())
	}
	return want
}

// bySolve is what layer 10 says of the graph of two cells and of all free variables of a heap, with places in the stead of nodes.
func bySolve(t *testing.T, h *cells.Heap, one, other int) api.Verdict {
	t.Helper()
	m := open(h)
	free := slices.DeleteFunc(m.cells(), func(at int) bool { return !m.free(at) })
	g, err := h.Get(slices.Concat([]int{one, other}, free)...)
	done(t, err)
	out, err := solve.Verdict(g, [][2]int{{g.Roots[0], g.Roots[1]}})
	done(t, err)
	for i, node := range out.Vars {
		out.Vars[i] = free[slices.Index(g.Roots[2:], node)]
	}
	slices.Sort(out.Vars)
	return out
}

// wantTerms looks at two roots' cells of graphs that are put down one after the other, with no point, and with one ahead of each graph and behind all. The want is apart, same, or open with the numbers of roots that hold the variables.
func wantTerms(t *testing.T, graphs, pair, want string) {
	t.Helper()
	list, two := strings.Split(graphs, " | "), paired(pair)[0]
	for point := -1; point <= len(list); point++ {
		var all []int
		build := func() *cells.Heap {
			h := heap(t, 200)
			all = nil
			for i, s := range list {
				if i == point {
					h.Point()
				}
				all = append(all, put(t, h, made(s))...)
			}
			if point == len(list) {
				h.Point()
			}
			return h
		}
		h := build()
		kind, roots, _ := strings.Cut(want, " ")
		x := api.Verdict{Kind: map[string]int{"apart": isApart, "same": isSame, "open": isOpen}[kind]}
		for _, r := range numbers(roots) {
			cell, err := h.Look(all[r])
			if err != nil || cell.Kind != kVar {
				t.Fatalf("%s: root %d holds no variable: %v, %v", graphs, r, cell, err)
			}
			x.Vars = append(x.Vars, cell.At)
		}
		slices.Sort(x.Vars)
		if got := wantVerdict(t, build, all[two[0]], all[two[1]]); !alike(got, x) {
			t.Fatalf("%s: %s, want %s, which is %s", graphs, said(got), want, said(x))
		}
		wantLook(t, graphs, h, all[two[0]], all[two[1]], x)
	}
}
