package store_test

import (
	"errors"
	"slices"
	"strconv"
	"strings"
	"testing"

	"tendril/api"
	"tendril/store"
)

// The limits and the numbers are spelt here, apart from the program.
const (
	most      = 4096  // nodes, and roots
	manyWords = 65536 // words of an arena
	manyDifs  = 256
	widest    = 8
	great     = 1 << 50

	kVar  = 1
	kAtom = 2
	kInt  = 3
	kComp = 4

	isApart = 1
	isSame  = 2
	isOpen  = 3

	errNil   = 1
	errMax   = 20
	errFull  = 22
	errGraph = 40
	errRoot  = 43
	errNew   = 110
	errPut   = 111
	errRoom  = 112
	errCell  = 113
	errPoint = 116
	errLarge = 117
	errKeep  = 118
	errTell  = 140
	errDifs  = 141
)

// Nodes.
func v() api.Node                         { return api.Node{Kind: kVar} }
func a(name string) api.Node              { return api.Node{Kind: kAtom, Name: name} }
func n(num int) api.Node                  { return api.Node{Kind: kInt, Num: num} }
func c(name string, args ...int) api.Node { return api.Node{Kind: kComp, Name: name, Args: args} }

// node is a node from a short text: X a variable, a an atom, -7 an integer, f(1,2) a compound.
func node(s string) api.Node {
	name, rest, comp := strings.Cut(s, "(")
	if comp {
		out := c(name)
		for arg := range strings.SplitSeq(strings.TrimSuffix(rest, ")"), ",") {
			out.Args = append(out.Args, number(arg))
		}
		return out
	}
	if num, err := strconv.Atoi(s); err == nil {
		return n(num)
	}
	if s[0] >= 'A' && s[0] <= 'Z' {
		return v()
	}
	return a(name)
}

func number(s string) int {
	num, err := strconv.Atoi(s)
	if err != nil {
		panic(err)
	}
	return num
}

func numbers(s string) []int {
	var out []int
	for x := range strings.FieldsSeq(s) {
		out = append(out, number(x))
	}
	return out
}

// made is a graph from its nodes and its roots, with blanks between, and a : ahead of the roots. Without a : each node is a root.
func made(s string) api.Graph {
	list, roots, told := strings.Cut(s, ":")
	g := api.Graph{Roots: numbers(roots)}
	for s := range strings.FieldsSeq(list) {
		if !told {
			g.Roots = append(g.Roots, len(g.Nodes))
		}
		g.Nodes = append(g.Nodes, node(s))
	}
	return g
}

// paired is pairs from a text such as 0-1 2-3.
func paired(s string) [][2]int {
	var out [][2]int
	for x := range strings.FieldsSeq(s) {
		one, other, _ := strings.Cut(x, "-")
		out = append(out, [2]int{number(one), number(other)})
	}
	return out
}

// pairsText is pairs as such a text.
func pairsText(list [][2]int) string {
	var out []string
	for _, pair := range list {
		out = append(out, strconv.Itoa(pair[0])+"-"+strconv.Itoa(pair[1]))
	}
	return short(strings.Join(out, " "))
}

// telling is all that a graph says.
func telling(g api.Graph) string {
	var out strings.Builder
	for _, m := range g.Nodes {
		out.WriteString(strconv.Itoa(m.Kind) + " " + strconv.Quote(m.Name) + " " + strconv.Itoa(m.Num))
		for _, arg := range m.Args {
			out.WriteString(" " + strconv.Itoa(arg))
		}
		out.WriteString("; ")
	}
	out.WriteString("roots")
	for _, r := range g.Roots {
		out.WriteString(" " + strconv.Itoa(r))
	}
	return out.String()
}

// short is a text as it is told when a test fails.
func short(s string) string {
	if len(s) > 900 {
		return s[:900] + ".. of " + strconv.Itoa(len(s)) + " bytes"
	}
	return s
}

// tell is a word as text.
func tell(w uint64) string {
	value := valueOf(w)
	if tagOf(w) == tagFun {
		return "fun " + strconv.Itoa(value/16) + "/" + strconv.Itoa(value%16)
	}
	return []string{"ref ", "atom ", "int ", "str ", "fun ", "fwd ", "bad ", "bad "}[tagOf(w)] + strconv.Itoa(value)
}

// laid is a dump as text: the words; the trail, each entry's place with its word; of each point the trail's length, Top and the disequalities; the names; the disequalities.
func laid(d api.Dump) string {
	var words, trail, marks []string
	for _, w := range d.Words {
		words = append(words, tell(w))
	}
	for _, s := range d.Trail {
		trail = append(trail, strconv.Itoa(s.At)+" "+tell(s.Old))
	}
	for _, m := range d.Marks {
		marks = append(marks, strings.TrimSpace(strconv.Itoa(m.Trail)+" "+strconv.Itoa(m.Top)+" "+pairsText(m.Difs)))
	}
	return strings.Join(words, ", ") + " | " + strings.Join(trail, ", ") + " | " + strings.Join(marks, ", ") + " | " + strings.Join(d.Names, " ") + " | " + pairsText(d.Difs)
}

// sameDump tells whether two dumps say the same.
func sameDump(x, y api.Dump) bool {
	point := func(x, y api.Mark) bool {
		return x.Trail == y.Trail && x.Top == y.Top && slices.Equal(x.Difs, y.Difs)
	}
	return slices.Equal(x.Words, y.Words) && slices.Equal(x.Trail, y.Trail) && slices.EqualFunc(x.Marks, y.Marks, point) && slices.Equal(x.Names, y.Names) && slices.Equal(x.Difs, y.Difs)
}

// done stops the test if there is an error.
func done(t *testing.T, err error) {
	t.Helper()
	if err != nil {
		t.Fatal(err)
	}
}

// empty is a new store of a size.
func empty(t *testing.T, max int) *store.Store {
	t.Helper()
	s, err := store.New(max)
	if err != nil || s == nil {
		t.Fatal(s, err)
	}
	return s
}

// put puts a graph down.
func put(t *testing.T, s *store.Store, g api.Graph) []int {
	t.Helper()
	places, err := s.Put(g)
	if err != nil {
		t.Fatalf("Put(%s): %v", short(telling(g)), err)
	}
	return places
}

// holding is a store of 200 words in which a graph was put down, and the places of the roots' cells.
func holding(t *testing.T, s string) (*store.Store, []int) {
	t.Helper()
	out := empty(t, 200)
	return out, put(t, out, made(s))
}

// point makes a point and stops the test unless it has this number.
func point(t *testing.T, s *store.Store, want int) {
	t.Helper()
	if got, err := s.Point(); got != want || err != nil || s.Points() != want+1 {
		t.Fatalf("Point: %d, %v, %d in all, want %d", got, err, s.Points(), want)
	}
}

// fault is what an error says, if it is a fault itself with this number and place, without a name.
func fault(err error, code, at int) (*api.Fault, bool) {
	f, ok := err.(*api.Fault)
	if !ok || f == nil || f.Code != api.Errno(code) || f.At != at || f.Name != "" || !errors.Is(err, api.Errno(code)) {
		return nil, false
	}
	return f, true
}

// isFault tells whether an error is a fault itself with this number and place, without a cause.
func isFault(err error, code, at int) bool {
	f, ok := fault(err, code, at)
	return ok && f.Cause == nil
}

// isCaused tells whether an error is a fault itself with this number and place, by a cause with these.
func isCaused(err error, code, at, cause, causeAt int) bool {
	f, ok := fault(err, code, at)
	return ok && isFault(f.Cause, cause, causeAt) && errors.Is(err, api.Errno(cause))
}

// isStrange tells whether an error is ErrTell at a place, by chapter 11's ErrCell at the same.
func isStrange(err error, at int) bool { return isCaused(err, errTell, at, errCell, at) }

// wantDifs stops the test unless these are the disequalities that are open, by the numbers of cells in a list; and all that is promised of them holds.
func wantDifs(t *testing.T, s *store.Store, r []int, want string) {
	t.Helper()
	var list [][2]int
	for _, pair := range paired(want) {
		list = append(list, [2]int{r[pair[0]], r[pair[1]]})
	}
	if got := s.Difs(); !slices.Equal(got, list) {
		t.Fatalf("open are %s, want %s, which is %s", pairsText(got), want, pairsText(list))
	}
	wantSound(t, s)
}

// wantSound stops the test unless what P14.3 says holds: each open disequality's verdict is DifOpen, and the words are sound; with that, all calls that tell something tell what Dump says.
func wantSound(t *testing.T, s *store.Store) {
	t.Helper()
	m := laidOpen{s.Dump()}
	if why := m.unsound(); why != "" {
		t.Fatalf("%s: %s", short(laid(m.Dump)), why)
	}
	for _, pair := range m.Difs {
		if !m.cell(pair[0]) || !m.cell(pair[1]) || m.verdict(pair[0], pair[1]) != isOpen {
			t.Fatalf("%s: the disequality %v isn't open", short(laid(m.Dump)), pair)
		}
	}
	if !slices.Equal(s.Difs(), m.Difs) || s.Top() != len(m.Words) || s.Points() != len(m.Marks) || len(m.Difs) > manyDifs {
		t.Fatalf("%s: %d words, %d points, open are %s", short(laid(m.Dump)), s.Top(), s.Points(), pairsText(s.Difs()))
	}
}

// wantLaid stops the test unless the store is so.
func wantLaid(t *testing.T, s *store.Store, want string) {
	t.Helper()
	if got := laid(s.Dump()); got != want {
		t.Fatalf("the store is\n%s, want\n%s", got, want)
	}
	wantSound(t, s)
}

// wantUnchanged stops the test unless the store is as it was.
func wantUnchanged(t *testing.T, what string, s *store.Store, before api.Dump) {
	t.Helper()
	if now := s.Dump(); !sameDump(now, before) {
		t.Fatalf("%s: the store is\n%s, and was\n%s", what, short(laid(now)), short(laid(before)))
	}
	wantSound(t, s)
}

// wantGet stops the test unless cells hold these terms.
func wantGet(t *testing.T, s *store.Store, cells []int, want string) {
	t.Helper()
	got, err := s.Get(cells...)
	if err != nil || telling(got) != telling(made(want)) {
		t.Fatalf("Get%v: %s, %v, want %s", cells, short(telling(got)), err, want)
	}
}

// play tells a store a row of things: 0=1 that two cells of a list are one, 0#1 that they stay unlike. It stops the test unless the answers are these, each t or f; a call that answers false has changed nothing.
func play(t *testing.T, s *store.Store, r []int, row, want string) {
	t.Helper()
	got := ""
	for x := range strings.FieldsSeq(row) {
		if told(t, s, r, x) {
			got += "t"
		} else {
			got += "f"
		}
	}
	if got != want {
		t.Fatalf("%s: %s, want %s; the store is %s", row, got, want, short(laid(s.Dump())))
	}
}

// told tells a store one such thing, and tells the answer.
func told(t *testing.T, s *store.Store, r []int, x string) bool {
	t.Helper()
	before := s.Dump()
	call := s.Tell
	one, other, makes := strings.Cut(x, "=")
	if !makes {
		one, other, _ = strings.Cut(x, "#")
		call = s.Differ
	}
	ok, err := call(r[number(one)], r[number(other)])
	if err != nil {
		t.Fatalf("%s: %v", x, err)
	}
	if !ok {
		wantUnchanged(t, x+" is false", s, before)
	}
	wantSound(t, s)
	return ok
}

// split is the words of a text.
func split(s string) func(func(string) bool) { return strings.FieldsSeq(s) }

// sameMarks tells whether two lists of points say the same.
func sameMarks(x, y []api.Mark) bool { return sameDump(api.Dump{Marks: x}, api.Dump{Marks: y}) }
