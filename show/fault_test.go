package show_test

import (
	"errors"
	"math"
	"slices"
	"strconv"
	"strings"
	"testing"

	"tendril/api"
	"tendril/show"
)

// The numbers of the errors are spelt here, apart from the program.
const (
	errGraph = 40
	errNodes = 41
	errRoots = 42
	errRoot  = 43

	errLexLong   = 60
	errLexByte   = 61
	errLexName   = 62
	errLexInt    = 63
	errLexOpen   = 64
	errLexEscape = 65

	errSource = 70
	errSyntax = 71
	errEnd    = 72
	errNest   = 73
	errArity  = 74

	errExprs   = 80
	errEqs     = 82
	errEqName  = 83
	errEqTwice = 84
	errBig     = 85

	errShow = 90
	errRead = 91
)

// fault is a fault as it must be.
func fault(code, at int, name string, cause *api.Fault) *api.Fault {
	out := &api.Fault{Code: api.Errno(code), At: at, Name: name}
	if cause != nil {
		out.Cause = cause
	}
	return out
}

// isFault tells whether an error is this fault itself, with these causes.
func isFault(err error, want *api.Fault) bool {
	f, ok := err.(*api.Fault)
	if !ok || f == nil || f.Code != want.Code || f.At != want.At || f.Name != want.Name || !errors.Is(err, want.Code) {
		return false
	}
	if want.Cause == nil {
		return f.Cause == nil
	}
	return isFault(f.Cause, want.Cause.(*api.Fault))
}

// wantShow stops the test unless Text and Terms refuse a graph by ErrShow at this place for this cause, with nothing beside it.
func wantShow(t *testing.T, g api.Graph, code, at int) {
	t.Helper()
	want := fault(errShow, at, "", fault(code, at, "", nil))
	text, err := show.Text(g)
	if !isFault(err, want) || text != "" {
		t.Fatalf("%s: Text: %s, %v, want %v", short(telling(g)), short(text), err, want)
	}
	x, err := show.Terms(g)
	if !isFault(err, want) || len(x.Roots)+len(x.Eqs) > 0 {
		t.Fatalf("%s: Terms: %s, %v, want %v", short(telling(g)), short(termsTelling(x)), err, want)
	}
}

// wantRead stops the test unless Read refuses a text by ErrRead at this place for this cause, with nothing beside it.
func wantRead(t *testing.T, text string, at int, cause *api.Fault) {
	t.Helper()
	want := fault(errRead, at, "", cause)
	g, err := show.Read(text)
	if !isFault(err, want) || len(g.Nodes)+len(g.Roots) > 0 {
		t.Fatalf("%s: %s, %v, want %v", short(text), short(telling(g)), err, want)
	}
}

// badNodes is nodes that aren't good in a graph of five, in each of the ways that chapter 4 names.
func badNodes() map[string]api.Node {
	out := map[string]api.Node{
		"nothing": {}, "no kind with a name": {Name: "a"}, "the kind -1": {Kind: -1}, "the kind 5": {Kind: 5, Name: "f", Args: []int{0}}, "the kind 257": {Kind: 257}, "the kind 1 << 32 + 4": {Kind: 1<<32 + 4, Name: "f", Args: []int{0}},
		"a variable with a name": {Kind: kVar, Name: "X"}, "a variable with a number": {Kind: kVar, Num: 1}, "a variable with arguments": {Kind: kVar, Args: []int{0}},
		"an atom with a number": {Kind: kAtom, Name: "a", Num: 1}, "an atom with arguments": {Kind: kAtom, Name: "a", Args: []int{0}},
		"an integer with a name": {Kind: kInt, Name: "1", Num: 1}, "an integer with arguments": {Kind: kInt, Num: 1, Args: []int{0}},
		"an integer too great": n(great + 1), "an integer too small": n(-great - 1), "the greatest int": n(math.MaxInt), "the least int": n(math.MinInt),
		"a compound with a number": {Kind: kComp, Name: "f", Num: -1, Args: []int{0}}, "a compound without arguments": c("f"), "a compound with no arguments": {Kind: kComp, Name: "f", Args: []int{}},
		"too many arguments": c("f", make([]int, widest+1)...), "an argument -1": c("f", 0, -1), "an argument 5": c("f", 4, 5), "the greatest argument": c("f", math.MaxInt), "the least argument": c(".", 0, math.MinInt),
	}
	for _, name := range []string{"", " ", "a b", "a\n", "\x00", "\x7f", "é", strings.Repeat("a", longest+1)} {
		out["the atom "+name] = a(name)
		out["the compound "+name] = c(name, 0)
	}
	return out
}

// P9.1: nodes that aren't good, at each place, be they met from the roots or not.
func TestBadNodes(t *testing.T) {
	for what, bad := range badNodes() {
		t.Run(what, func(t *testing.T) {
			for at := range 5 {
				for _, roots := range [][]int{nil, {0}, {at}, {4, 3, 2, 1, 0}, {9}} {
					g := made("f(1,2) X a g(0) 7", "")
					g.Roots, g.Nodes[at] = roots, bad
					wantShow(t, g, errGraph, at)
					for also := at + 1; also < 5; also++ {
						g.Nodes[also] = api.Node{}
						wantShow(t, g, errGraph, at)
					}
				}
			}
		})
	}
}

// P9.1: roots that are no node's number.
func TestBadRoots(t *testing.T) {
	for _, bad := range []int{-1, 2, 3, most, math.MaxInt, math.MinInt} {
		for at := range 4 {
			g := made("f(1) X", "0 1 0 1")
			g.Roots[at] = bad
			wantShow(t, g, errRoot, at)
			g.Roots[3] = bad
			wantShow(t, g, errRoot, at)
			g.Nodes[1].Num = 1
			wantShow(t, g, errGraph, 1)
		}
	}
	wantShow(t, of(nil, 0), errRoot, 0)
	wantShow(t, of(nil, -1), errRoot, 0)
}

// P9.1: more nodes or more roots than may be, whatever else is wrong.
func TestTooMany(t *testing.T) {
	for _, count := range []int{most + 1, most + 2, 2 * most} {
		g := api.Graph{Nodes: make([]api.Node, count), Roots: []int{-1}}
		wantShow(t, g, errNodes, count)
		g.Roots = make([]int, 3*most)
		wantShow(t, g, errNodes, count)
		for i := range g.Nodes {
			g.Nodes[i] = v()
		}
		g.Roots = g.Roots[:1]
		wantShow(t, g, errNodes, count)
		wantShow(t, of(nodes(v()), make([]int, count)...), errRoots, count)
		wantShow(t, of(nodes(api.Node{}), make([]int, count)...), errRoots, count)
		wantShow(t, of(nil, make([]int, count)...), errRoots, count)
	}
}

// P9.1: texts that the scanner refuses: the cause of the cause is its fault.
func TestNoTokens(t *testing.T) {
	source := func(text string, code, at int) {
		t.Helper()
		wantRead(t, text, at, fault(errSource, at, "", fault(code, at, "", nil)))
	}
	source("a 'b", errLexOpen, 2)
	source("a, : b", errLexByte, 3)
	source("a\x00", errLexByte, 1)
	source("f(é)", errLexByte, 2)
	source("a, ''", errLexName, 3)
	source(strings.Repeat("a", longest+1), errLexName, 0)
	source("X, "+strings.Repeat("X", longest+1), errLexName, 3)
	source("f(007)", errLexInt, 2)
	source("1125899906842625", errLexInt, 0)
	source("a, -1125899906842625", errLexInt, 3)
	source("a where X = 'a\\n'", errLexEscape, 14)
	source(strings.Repeat(" ", 1<<22)+"a", errLexLong, 1<<22)
	// The scanner's fault comes first, also behind what cannot stand there.
	source("a b 'c", errLexOpen, 4)
	if g, err := show.Read(strings.Repeat(" ", 1<<22-1) + "a"); err != nil || telling(g) != telling(made("a", "0")) {
		t.Error(telling(g), err)
	}
}

// P9.1: texts that the grammar refuses.
func TestNoTerms(t *testing.T) {
	for text, at := range map[string]int{
		"a b": 2, "f()": 2, "f(a b)": 4, "[a|b,c]": 4, "a where b = c": 8, ",a": 0, "(a)": 0, "X(a)": 1, "a.": 1, "a :- b": 2, "a = b": 2, "a where X = b where Y = c": 14, "a where X, Y": 9, "[|a]": 1, "a)": 1, "where X = a": 6, "'where' X": 8,
	} {
		wantRead(t, text, at, fault(errSyntax, at, "", nil))
	}
	for _, text := range []string{"f(X", "f(", "a,", "[", "[a", "[a|", "[a|b", "a where", "a where X", "a where X =", "a where X = f(", "a where X = b,", "a, % b"} {
		wantRead(t, text, len(text), fault(errEnd, len(text), "", nil))
	}
	wantRead(t, "f(1,2,3,4,5,6,7,8,9)", 18, fault(errArity, 18, "", nil))
	wantRead(t, "a where X = f(1,2,3,4,5,6,7,8,9)", 30, fault(errArity, 30, "", nil))
	for _, ahead := range []string{"", "a where X = "} {
		deep := ahead + strings.Repeat("f(", most+1)
		wantRead(t, deep+"a"+strings.Repeat(")", most+1), len(deep), fault(errNest, len(deep), "", nil))
	}
}

// P9.1: texts that can't be tied, with the place that tie.Read tells, which is none in the text; the name is the cause's alone.
func TestNotTied(t *testing.T) {
	wantRead(t, "a where X = b, Y = c, _ = d", 2, fault(errEqName, 2, "_", nil))
	wantRead(t, "X where X = a, X = b", 1, fault(errEqTwice, 1, "X", nil))
	wantRead(t, "X where X = X, Y = X, Z = a, Y = X", 3, fault(errEqTwice, 3, "Y", nil))
	for _, count := range []int{most + 1, most + 2} {
		wantRead(t, strings.Join(slices.Repeat([]string{"X"}, count), ","), count, fault(errExprs, count, "", nil))
		wantRead(t, "a where "+strings.Join(slices.Repeat([]string{"X = a"}, count), ","), count, fault(errEqs, count, "", nil))
	}
	// Faults of the text come ahead of those of what it says.
	wantRead(t, "a where _ = b, X", 16, fault(errEnd, 16, "", nil))
	wantRead(t, "X where X = a, X = b c", 21, fault(errSyntax, 21, "", nil))
}

// P9.1, P9.2: a text too large for tie.Read, and one just small enough.
func TestTooLarge(t *testing.T) {
	for _, count := range []int{most - 1, most, most + 1} {
		deep := func(inner string) string {
			return strings.Repeat("f(", count-1) + inner + strings.Repeat(")", count-1)
		}
		wantLarge(t, deep("a"), count, "E1 where E1 = "+deep("a"))
		wantLarge(t, deep("_"), count, "E1 where E1 = "+deep("V1"))
		wantLarge(t, "X where X = "+deep("X"), count, "E1 where E1 = f(E1)")
		wantLarge(t, "a where "+equations(count-1), count, "a")
		wantLarge(t, strings.Repeat("a,", count-3)+"f(X, Y)", count, strings.Repeat("a, ", count-3)+"E1 where E1 = f(V1,V2)")
	}
	for _, count := range []int{most - 1, most + 1} {
		// Two for each element, and one for the rest.
		list := "[a" + strings.Repeat(",a", count/2-1)
		wantLarge(t, list+"]", count, "E1 where E1 = "+list+"]")
		wantLarge(t, list+"|X]", count, "E1 where E1 = "+list+"|V1]")
	}
	// Read from few nodes, and told with more: that text is too large, though what it tells was read.
	var roots []string
	for i := range 1000 {
		roots = append(roots, "f(X,X,X,X,X,X,X,"+strconv.Itoa(i)+")")
	}
	text := strings.Join(roots, ", ") + " where X = a"
	g, err := show.Read(text)
	if err != nil || countOf(text) != 2002 {
		t.Fatal(err, countOf(text))
	}
	wantText(t, g, textOf(g))
	wantRead(t, textOf(g), 10000, fault(errBig, 10000, "", nil))
}

// wantLarge stops the test unless a text that counts so many is refused for that, or is read and told as said.
func wantLarge(t *testing.T, text string, count int, again string) {
	t.Helper()
	if countOf(text) != count {
		t.Fatalf("%s counts %d, want %d", short(text), countOf(text), count)
	}
	if count > most {
		wantRead(t, text, count, fault(errBig, count, "", nil))
		return
	}
	g, err := show.Read(text)
	if err != nil {
		t.Fatalf("%s: %v", short(text), err)
	}
	wantText(t, g, again)
}

// equations is so many equations of names that lead round in a circle.
func equations(count int) string {
	var out []string
	for i := range count {
		out = append(out, "N"+strconv.Itoa(i)+" = N"+strconv.Itoa((i+1)%count))
	}
	return strings.Join(out, ", ")
}
