package collect_test

import (
	"errors"
	"slices"
	"strconv"
	"strings"
	"testing"

	"tendril/api"
	"tendril/collect"
	"tendril/store"
)

// The limits and the numbers are spelt here, apart from the program.
const (
	manyWords = 65536 // words of an arena
	manyNodes = 4096
	manyDifs  = 256
	widest    = 8

	kVar  = 1
	kAtom = 2
	kInt  = 3
	kComp = 4

	errNil     = 1
	errCell    = 113
	errCollect = 150
)

// Nodes.
func v() api.Node                         { return api.Node{Kind: kVar} }
func a(name string) api.Node              { return api.Node{Kind: kAtom, Name: name} }
func n(num int) api.Node                  { return api.Node{Kind: kInt, Num: num} }
func c(name string, args ...int) api.Node { return api.Node{Kind: kComp, Name: name, Args: args} }

// node is a node from a short text: X a variable, a an atom, -7 an integer, f(1,2) a compound.
func node(s string) api.Node {
	name, rest, comp := strings.Cut(s, "(")
	if comp {
		out := c(name)
		for arg := range strings.SplitSeq(strings.TrimSuffix(rest, ")"), ",") {
			out.Args = append(out.Args, number(arg))
		}
		return out
	}
	if num, err := strconv.Atoi(s); err == nil {
		return n(num)
	}
	if s[0] >= 'A' && s[0] <= 'Z' {
		return v()
	}
	return a(name)
}

func number(s string) int {
	num, err := strconv.Atoi(s)
	if err != nil {
		panic(err)
	}
	return num
}

func numbers(s string) []int {
	var out []int
	for x := range strings.FieldsSeq(s) {
		out = append(out, number(x))
	}
	return out
}

// made is a graph from its nodes and its roots, with blanks between, and a : ahead of the roots. Without a : each node is a root.
func made(s string) api.Graph {
	list, roots, told := strings.Cut(s, ":")
	g := api.Graph{Roots: numbers(roots)}
	for s := range strings.FieldsSeq(list) {
		if !told {
			g.Roots = append(g.Roots, len(g.Nodes))
		}
		g.Nodes = append(g.Nodes, node(s))
	}
	return g
}

// telling is all that a graph says.
func telling(g api.Graph) string {
	var out strings.Builder
	for _, m := range g.Nodes {
		out.WriteString(strconv.Itoa(m.Kind) + " " + strconv.Quote(m.Name) + " " + strconv.Itoa(m.Num))
		for _, arg := range m.Args {
			out.WriteString(" " + strconv.Itoa(arg))
		}
		out.WriteString("; ")
	}
	out.WriteString("roots")
	for _, r := range g.Roots {
		out.WriteString(" " + strconv.Itoa(r))
	}
	return out.String()
}

// short is a text as it is told when a test fails.
func short(s string) string {
	if len(s) > 900 {
		return s[:900] + ".. of " + strconv.Itoa(len(s)) + " bytes"
	}
	return s
}

// pairsText is pairs as text.
func pairsText(list [][2]int) string {
	var out []string
	for _, pair := range list {
		out = append(out, strconv.Itoa(pair[0])+"-"+strconv.Itoa(pair[1]))
	}
	return strings.Join(out, " ")
}

// laid is a dump as text: the words; the trail, each entry's place with its word; of each point the trail's length, Top and the disequalities; the names; the disequalities.
func laid(d api.Dump) string {
	var words, trail, marks []string
	for _, w := range d.Words {
		words = append(words, tell(w))
	}
	for _, s := range d.Trail {
		trail = append(trail, strconv.Itoa(s.At)+" "+tell(s.Old))
	}
	for _, m := range d.Marks {
		marks = append(marks, strings.TrimSpace(strconv.Itoa(m.Trail)+" "+strconv.Itoa(m.Top)+" "+pairsText(m.Difs)))
	}
	return strings.Join(words, ", ") + " | " + strings.Join(trail, ", ") + " | " + strings.Join(marks, ", ") + " | " + strings.Join(d.Names, " ") + " | " + pairsText(d.Difs)
}

// done stops the test if there is an error.
func done(t *testing.T, err error) {
	t.Helper()
	if err != nil {
		t.Fatal(err)
	}
}

// empty is a new store of a size.
func empty(t *testing.T, max int) *store.Store {
	t.Helper()
	s, err := store.New(max)
	if err != nil || s == nil {
		t.Fatal(s, err)
	}
	return s
}

// put puts a graph down.
func put(t *testing.T, s *store.Store, g api.Graph) []int {
	t.Helper()
	places, err := s.Put(g)
	if err != nil {
		t.Fatalf("Put(%s): %v", short(telling(g)), err)
	}
	return places
}

// holding is a store of 200 words in which a graph was put down, and the places of the roots' cells.
func holding(t *testing.T, s string) (*store.Store, []int) {
	t.Helper()
	out := empty(t, 200)
	return out, put(t, out, made(s))
}

// point makes a point and stops the test unless it has this number.
func point(t *testing.T, s *store.Store, want int) {
	t.Helper()
	if got, err := s.Point(); got != want || err != nil {
		t.Fatalf("Point: %d, %v, want %d", got, err, want)
	}
}

// play tells a store a row of things: 0=1 that two cells of a list are one, 0#1 that they stay unlike. It stops the test unless the answers are these, each t or f.
func play(t *testing.T, s *store.Store, r []int, row, want string) {
	t.Helper()
	got := ""
	for x := range strings.FieldsSeq(row) {
		call := s.Tell
		one, other, makes := strings.Cut(x, "=")
		if !makes {
			one, other, _ = strings.Cut(x, "#")
			call = s.Differ
		}
		ok, err := call(r[number(one)], r[number(other)])
		if err != nil {
			t.Fatalf("%s: %v", x, err)
		}
		got += map[bool]string{true: "t", false: "f"}[ok]
	}
	if got != want {
		t.Fatalf("%s: %s, want %s; the store is %s", row, got, want, short(laid(s.Dump())))
	}
}

// fault is what an error says, if it is a fault itself with this number and place, without a name.
func fault(err error, code, at int) (*api.Fault, bool) {
	f, ok := err.(*api.Fault)
	if !ok || f == nil || f.Code != api.Errno(code) || f.At != at || f.Name != "" || !errors.Is(err, api.Errno(code)) {
		return nil, false
	}
	return f, true
}

// isFault tells whether an error is a fault itself with this number and place, without a cause.
func isFault(err error, code, at int) bool {
	f, ok := fault(err, code, at)
	return ok && f.Cause == nil
}

// isStrange tells whether an error is ErrCollect at a root's number, by chapter 11's ErrCell at the same.
func isStrange(err error, at int) bool {
	f, ok := fault(err, errCollect, at)
	return ok && isFault(f.Cause, errCell, at) && errors.Is(err, api.Errno(errCell))
}

// wantCount stops the test unless so many words are wanted; asking has changed nothing.
func wantCount(t *testing.T, s *store.Store, roots []int, want int) {
	t.Helper()
	before := laid(s.Dump())
	if got, err := collect.Count(s, roots); got != want || err != nil {
		t.Fatalf("Count(%v): %d, %v, want %d; the store is %s", roots, got, err, want, short(before))
	}
	if now := laid(s.Dump()); now != before {
		t.Fatalf("Count(%v): the store is\n%s, and was\n%s", roots, short(now), short(before))
	}
}

// run compacts a store and stops the test unless all that is promised of the one call holds. It answers the places of the roots.
func run(t *testing.T, s *store.Store, roots []int) []int {
	t.Helper()
	before := laidOpen{s.Dump()}
	wanted := before.wanted(roots)
	wantCount(t, s, roots, len(wanted))
	got, err := collect.Run(s, roots)
	if err != nil {
		t.Fatalf("Run(%v): %v; the store was %s", roots, err, short(laid(before.Dump)))
	}
	want := before.without(wanted)
	if now := laid(s.Dump()); now != laid(want.Dump) {
		t.Fatalf("Run(%v): the store is\n%s, want\n%s, and was\n%s", roots, short(now), short(laid(want.Dump)), short(laid(before.Dump)))
	}
	places := make([]int, len(roots))
	for i, at := range roots {
		places[i] = slices.Index(wanted, at)
	}
	if !slices.Equal(got, places) {
		t.Fatalf("Run(%v): %v, want %v; the store was %s", roots, got, places, short(laid(before.Dump)))
	}
	wantLean(t, s, got)
	wantSound(t, s)
	return got
}

// wantLean stops the test unless all words are wanted, and Run takes nothing out.
func wantLean(t *testing.T, s *store.Store, roots []int) {
	t.Helper()
	before := laid(s.Dump())
	wantCount(t, s, roots, s.Top())
	got, err := collect.Run(s, roots)
	if err != nil || !slices.Equal(got, roots) {
		t.Fatalf("Run(%v) once more: %v, %v", roots, got, err)
	}
	if now := laid(s.Dump()); now != before {
		t.Fatalf("Run(%v) once more: the store is\n%s, and was\n%s", roots, short(now), short(before))
	}
}

// wantRun stops the test unless so many words are wanted, and Run answers these places and leaves the store so; all texts are of numbers, but the last.
func wantRun(t *testing.T, s *store.Store, roots string, count int, places, left string) {
	t.Helper()
	wantCount(t, s, numbers(roots), count)
	if got := run(t, s, numbers(roots)); !slices.Equal(got, numbers(places)) {
		t.Fatalf("Run(%s): %v, want %s", roots, got, places)
	}
	wantLaid(t, s, left)
}

// wantLaid stops the test unless the store is so.
func wantLaid(t *testing.T, s *store.Store, want string) {
	t.Helper()
	if got := laid(s.Dump()); got != want {
		t.Fatalf("the store is\n%s, want\n%s", got, want)
	}
	wantSound(t, s)
}

// wantSound stops the test unless the words are sound, by P11.3.
func wantSound(t *testing.T, s *store.Store) {
	t.Helper()
	m := laidOpen{s.Dump()}
	if why := m.unsound(); why != "" {
		t.Fatalf("%s: %s", short(laid(m.Dump)), why)
	}
}

// terms is what cells hold, all of them together, as text.
func terms(t *testing.T, s *store.Store, cells []int) string {
	t.Helper()
	g, err := s.Get(cells...)
	if err != nil {
		t.Fatalf("Get%v: %v", cells, err)
	}
	return telling(g)
}

// wantGet stops the test unless cells hold these terms.
func wantGet(t *testing.T, s *store.Store, cells []int, want string) {
	t.Helper()
	if got := terms(t, s, cells); got != telling(made(want)) {
		t.Fatalf("Get%v: %s, want %s", cells, short(got), want)
	}
}

// state is what cells and the open disequalities hold, all of them together, as text.
func state(t *testing.T, s *store.Store, cells []int) string {
	t.Helper()
	all := slices.Clone(cells)
	difs := s.Difs()
	for _, pair := range difs {
		all = append(all, pair[0], pair[1])
	}
	return strconv.Itoa(len(difs)) + " open, " + terms(t, s, all)
}
