package solve_test

import (
	"slices"
	"strconv"
	"strings"
	"testing"

	"tendril/api"
	"tendril/bisim"
	"tendril/graph"
	"tendril/solve"
)

// The limits and the numbers are spelt here, apart from the program.
const (
	most    = 4096 // nodes, and roots
	widest  = 8
	longest = 32 // bytes of a name
	great   = 1 << 50

	kVar  = 1
	kAtom = 2
	kInt  = 3
	kComp = 4

	apart = 1
	same  = 2
	open  = 3
)

// Nodes.
func v() api.Node                                { return api.Node{Kind: kVar} }
func a(name string) api.Node                     { return api.Node{Kind: kAtom, Name: name} }
func n(num int) api.Node                         { return api.Node{Kind: kInt, Num: num} }
func c(name string, args ...int) api.Node        { return api.Node{Kind: kComp, Name: name, Args: args} }
func nodes(list ...api.Node) []api.Node          { return list }
func of(list []api.Node, roots ...int) api.Graph { return api.Graph{Nodes: list, Roots: roots} }

// node is a node from a short text: X a variable, a an atom, -7 an integer, f(1,2) a compound.
func node(s string) api.Node {
	name, rest, comp := strings.Cut(s, "(")
	if comp {
		out := c(name)
		for arg := range strings.SplitSeq(strings.TrimSuffix(rest, ")"), ",") {
			out.Args = append(out.Args, number(arg))
		}
		return out
	}
	if num, err := strconv.Atoi(s); err == nil {
		return n(num)
	}
	if s[0] >= 'A' && s[0] <= 'Z' {
		return v()
	}
	return a(name)
}

func number(s string) int {
	num, err := strconv.Atoi(s)
	if err != nil {
		panic(err)
	}
	return num
}

func numbers(s string) []int {
	var out []int
	for x := range strings.FieldsSeq(s) {
		out = append(out, number(x))
	}
	return out
}

// made is a graph from its nodes and its roots, with blanks between.
func made(list, roots string) api.Graph {
	g := api.Graph{Roots: numbers(roots)}
	for s := range strings.FieldsSeq(list) {
		g.Nodes = append(g.Nodes, node(s))
	}
	return g
}

// paired is pairs from a text: 0-1 2-2.
func paired(s string) [][2]int {
	var out [][2]int
	for x := range strings.FieldsSeq(s) {
		one, other, _ := strings.Cut(x, "-")
		out = append(out, [2]int{number(one), number(other)})
	}
	return out
}

// telling is all that a graph says.
func telling(g api.Graph) string {
	var out strings.Builder
	for _, m := range g.Nodes {
		out.WriteString(strconv.Itoa(m.Kind) + " " + strconv.Quote(m.Name) + " " + strconv.Itoa(m.Num))
		for _, arg := range m.Args {
			out.WriteString(" " + strconv.Itoa(arg))
		}
		out.WriteString("; ")
	}
	out.WriteString("roots")
	for _, r := range g.Roots {
		out.WriteString(" " + strconv.Itoa(r))
	}
	return out.String()
}

// short is a text as it is told when a test fails.
func short(s string) string {
	if len(s) > 400 {
		return s[:400] + ".. of " + strconv.Itoa(len(s)) + " bytes"
	}
	return s
}

// turned is pairs in the other order, the two of each turned.
func turned(pairs [][2]int) [][2]int {
	var out [][2]int
	for _, pair := range slices.Backward(pairs) {
		out = append(out, [2]int{pair[1], pair[0]})
	}
	return out
}

// wantSolve stops the test unless Solve answers this graph and true, or, if ok is false, nothing and false; however the pairs are turned, and with some of them twice (P10.1, P10.2).
func wantSolve(t *testing.T, g api.Graph, pairs [][2]int, want api.Graph, ok bool) {
	t.Helper()
	ways := [][][2]int{pairs, turned(pairs), slices.Concat(pairs, turned(pairs)), slices.Concat(turned(pairs), pairs, pairs)}
	for _, way := range ways {
		got, done, err := solve.Solve(g, way)
		if err != nil || done != ok || !graph.Same(got, want) {
			t.Fatalf("%s, %v: Solve:\n%s, %v, %v, want\n%s, %v", short(telling(g)), short(pairsTelling(way)), short(telling(got)), done, err, short(telling(want)), ok)
		}
	}
	if !ok {
		return
	}
	if is, err := solve.Instance(g, want); err != nil || !is {
		t.Fatalf("%s isn't an instance of %s: %v", short(telling(want)), short(telling(g)), err)
	}
	if again, err := bisim.Quotient(want); err != nil || !graph.Same(again, want) {
		t.Fatalf("%s isn't a least graph: %v", short(telling(want)), err)
	}
}

// wantVerdict stops the test unless Verdict answers this, however the pairs are turned, and with some of them twice (P10.1, P10.2).
func wantVerdict(t *testing.T, g api.Graph, pairs [][2]int, kind int, vars []int) {
	t.Helper()
	ways := [][][2]int{pairs, turned(pairs), slices.Concat(pairs, turned(pairs)), slices.Concat(turned(pairs), pairs, pairs)}
	for _, way := range ways {
		got, err := solve.Verdict(g, way)
		if err != nil || got.Kind != kind || !slices.Equal(got.Vars, vars) {
			t.Fatalf("%s, %v: Verdict: %v, %v, want %d, %v", short(telling(g)), short(pairsTelling(way)), got, err, kind, vars)
		}
	}
}

func pairsTelling(pairs [][2]int) string {
	var out strings.Builder
	for _, pair := range pairs {
		out.WriteString(strconv.Itoa(pair[0]) + "-" + strconv.Itoa(pair[1]) + " ")
	}
	return out.String()
}

// wantInstance stops the test unless Instance answers this.
func wantInstance(t *testing.T, p, g api.Graph, want bool) {
	t.Helper()
	if got, err := solve.Instance(p, g); err != nil || got != want {
		t.Fatalf("%s, an instance of %s: %v, %v, want %v", short(telling(g)), short(telling(p)), got, err, want)
	}
}

// becomes stops the test unless the pairs make of the graph what is told, and Verdict tells that it is open and hangs on these variables; if there are none, that it is so already.
func becomes(t *testing.T, list, roots, pairs, list2, roots2, vars string) {
	t.Helper()
	g := made(list, roots)
	wantSolve(t, g, paired(pairs), made(list2, roots2), true)
	kind := open
	if vars == "" {
		kind = same
	}
	wantVerdict(t, g, paired(pairs), kind, numbers(vars))
}

// never stops the test unless the pairs have no solution.
func never(t *testing.T, list, pairs string) {
	t.Helper()
	for _, roots := range []string{"", "0", "1 0"} {
		g := made(list, roots)
		wantSolve(t, g, paired(pairs), api.Graph{}, false)
		wantVerdict(t, g, paired(pairs), apart, nil)
	}
}

// P10.1, P10.3: the chapter's examples, as they stand there.
func TestExamples(t *testing.T) {
	wantSolve(t, made("X f(0)", "0"), paired("0-1"), made("f(0)", "0"), true)
	wantSolve(t, made("f(2,3) f(3,4) X Y a", "0"), paired("0-1"), made("f(1,1) a", "0"), true)
	wantSolve(t, made("a b", "0"), paired("0-1"), api.Graph{}, false)
	wantVerdict(t, made("X Y", ""), paired("0-1"), open, numbers("0 1"))
	wantVerdict(t, made("X a", ""), paired("0-1"), open, numbers("0"))
	wantVerdict(t, made("f(1) a f(1)", ""), paired("0-2"), same, nil)
	wantVerdict(t, made("f(1) X f(3) a Y", ""), paired("0-2"), open, numbers("1"))
	wantInstance(t, made("X", "0"), made("f(0)", "0"), true)
	wantInstance(t, made("X", "0 0"), made("a b", "0 1"), false)
	wantInstance(t, made("a", "0"), made("X", "0"), false)
}

// P10.1: the verdicts that chapter 13 tells of the same terms.
func TestExamplesOfDiffer(t *testing.T) {
	wantVerdict(t, made("f(2,4) f(3,4) X Y a", ""), paired("0-1"), open, numbers("2 3"))
	wantVerdict(t, made("X", ""), paired("0-0"), same, nil)
	wantVerdict(t, made("f(2) g(2) a", ""), paired("0-1"), apart, nil)
	wantVerdict(t, made("f(2,3) f(4,5) X Y a b", ""), paired("0-1"), open, numbers("2 3"))
	wantVerdict(t, made("f(2,2) f(3,4) X a b", ""), paired("0-1"), apart, nil)
	wantVerdict(t, made("X f(0)", ""), paired("0-1"), open, numbers("0"))
	wantVerdict(t, made("f(0) f(2) f(0)", ""), paired("0-1"), same, nil)
	// The tenth example of the whole.
	becomes(t, "f(0,1,0) a f(2,3,4) a f(2,3,2)", "0 2", "0-2", "f(0,1,0) a", "0 0", "")
}

// P10.1: without pairs the answer is the least graph, and all is as it is.
func TestNoPairs(t *testing.T) {
	becomes(t, "f(1,2,3,3) X X a b", "0 3", "", "f(1,2,3,3) X X a", "0 3", "")
	becomes(t, "f(1) f(0) f(2)", "2 1 0", "", "f(0)", "0 0 0", "")
	becomes(t, "X", "", "", "", "", "")
	becomes(t, "", "", "", "", "", "")
	wantSolve(t, made("X", "0"), [][2]int{}, made("X", "0"), true)
	wantVerdict(t, made("X", "0"), [][2]int{}, same, nil)
}

// P10.1: pairs of a node with itself say nothing.
func TestWithItself(t *testing.T) {
	becomes(t, "X", "0", "0-0", "X", "0", "")
	becomes(t, "a", "0", "0-0 0-0", "a", "0", "")
	becomes(t, "7", "", "0-0", "", "", "")
	becomes(t, "f(0)", "0", "0-0", "f(0)", "0", "")
	becomes(t, "f(1,2) X Y", "0", "0-0 1-1 2-2", "f(1,2) X Y", "0", "")
	becomes(t, "f(1,2) X Y", "0", "0-0 1-1 2-1 2-2", "f(1,1) X", "0", "1 2")
	never(t, "a b", "0-0 1-1 0-1")
}

// P10.2: pairs that stand twice, and the other way round, and in all orders.
func TestOrders(t *testing.T) {
	g := made("f(1,2) X Y g(2) a Z W h(5,6)", "0 7")
	want := made("f(1,2) g(2) a h(1,4) X", "0 3")
	pairs := paired("1-3 2-4 5-1 5-3 2-2")
	for _, order := range orders(len(pairs)) {
		for twist := range 1 << len(pairs) {
			var way [][2]int
			for _, i := range order {
				pair := pairs[i]
				if twist>>i&1 == 1 {
					pair[0], pair[1] = pair[1], pair[0]
				}
				way = append(way, pair)
			}
			wantSolve(t, g, way, want, true)
			wantVerdict(t, g, way, open, numbers("1 2 5"))
			wantVerdict(t, g, append(way, [2]int{0, 7}), apart, nil)
		}
	}
}

// orders is all orders of the numbers below count.
func orders(count int) [][]int {
	if count == 0 {
		return [][]int{nil}
	}
	var out [][]int
	for _, order := range orders(count - 1) {
		for at := range count {
			out = append(out, slices.Insert(slices.Clone(order), at, count-1))
		}
	}
	return out
}

// P10.1: nothing is answered of what no root leads to, but it is part of the pairs, and its variables hang on them.
func TestNoRootLeadsThere(t *testing.T) {
	becomes(t, "X a", "", "0-1", "", "", "0")
	becomes(t, "X a b", "2", "0-1", "b", "0", "0")
	becomes(t, "X Y a f(1)", "3", "0-1 0-2", "f(1) a", "0", "0 1")
	becomes(t, "X f(2) f(3) Y Z", "4", "1-2", "X", "0", "3")
	becomes(t, "X f(1) f(2) Y", "0 3", "1-2", "X Y", "0 1", "")
	becomes(t, "X g(3,4) g(5,6) Y Z a Y V", "0", "1-2", "X", "0", "3 4 6")
	// Variables that are met become one by others that are not.
	becomes(t, "X Y g(0,4) g(4,1) Z", "0 1", "2-3", "X", "0 0", "0 1 4")
	// What is not met may leave no solution.
	never(t, "X Y f(3) a f(5) b", "2-4")
	never(t, "X Y f(0) f(3) a", "2-3 0-1 1-4")
}

// P10.1: a variable and a compound that holds it, by one step and by several.
func TestHoldsIt(t *testing.T) {
	becomes(t, "X f(0)", "0 1", "0-1", "f(0)", "0 0", "0")
	becomes(t, "X f(2) f(3) f(0)", "0", "0-1", "f(0)", "0", "0")
	becomes(t, "X f(2) g(3) h(0)", "0 3 1", "0-1", "f(1) g(2) h(0)", "0 2 0", "0")
	becomes(t, "X f(2) g(3) h(0)", "0 3 1", "0-2", "g(1) h(0) f(0)", "0 1 2", "0")
	becomes(t, "f(1,2,1) X g(0)", "0", "0-1", "f(0,1,0) g(0)", "0", "1")
	becomes(t, "f(1,2) X Y", "0", "0-1", "f(0,1) X", "0", "1")
	becomes(t, "f(1,2) X Y", "0", "0-1 0-2", "f(0,0)", "0", "1 2")
	// A variable and two compounds that hold it.
	becomes(t, "X f(0) f(1)", "0 1 2", "0-2", "f(0)", "0 0 0", "0")
	becomes(t, "X f(0) f(4) g(0) X", "0 2 4", "0-1 2-1", "f(0)", "0 0 0", "0 4")
	never(t, "X f(0) g(0)", "0-1 0-2")
	never(t, "X f(2) g(0) f(0)", "0-1 0-3")
}

// P10.1: two compounds that hold each other or themselves.
func TestHoldEachOther(t *testing.T) {
	becomes(t, "f(1) f(0)", "0 1", "0-1", "f(0)", "0 0", "")
	becomes(t, "f(0) f(1)", "0 1", "0-1", "f(0)", "0 0", "")
	becomes(t, "f(1,2) f(0,3) X Y", "0 1", "0-1", "f(0,1) X", "0 0", "2 3")
	becomes(t, "f(0,2) f(1,3) X a", "0 1", "0-1", "f(0,1) a", "0 0", "2")
	becomes(t, "f(0,2) f(3,1) X X", "0", "0-1", "f(0,0)", "0", "2 3")
	becomes(t, "f(1,4) f(2,5) f(0,6) f(3,7) X Y Z a", "0 3", "0-3", "f(0,1) a", "0 0", "4 5 6")
	// Circles of two and of three: what stands at each place of them is one.
	becomes(t, "f(1,5) f(0,6) f(3,7) f(4,8) f(2,9) X Y X Y Z", "0 2", "0-2", "f(0,1) X", "0 0", "5 6 7 8 9")
	// Circles of two and of four: two and two are one.
	becomes(t, "f(1,6) f(0,7) f(3,8) f(4,9) f(5,10) f(2,11) X Y a b Z V", "0 2", "0-2", "f(1,3) f(0,2) b a", "0 0", "6 7 10 11")
	never(t, "f(0,2) f(1,3) a b", "0-1")
	never(t, "f(1,5) f(0,6) f(3,5) f(4,5) f(2,5) a b", "0-2")
	never(t, "f(1) g(0)", "0-1")
	never(t, "f(1) f(2) g(0)", "0-1")
}

// P10.1: variables that become one, two and more of them, and those that are left.
func TestVariablesBecomeOne(t *testing.T) {
	becomes(t, "X Y", "0 1", "0-1", "X", "0 0", "0 1")
	becomes(t, "X Y Z", "0 1 2", "0-1", "X Y", "0 0 1", "0 1")
	becomes(t, "X Y Z", "0 1 2", "0-2", "X Y", "0 1 0", "0 2")
	becomes(t, "X Y Z", "0 1 2", "1-2", "X Y", "0 1 1", "1 2")
	becomes(t, "X Y Z", "2 1 0", "0-1 1-2", "X", "0 0 0", "0 1 2")
	becomes(t, "X Y Z V f(0,1,2,3)", "4", "0-3 1-2", "f(1,2,2,1) X Y", "0", "0 1 2 3")
	becomes(t, "X Y Z V f(0,1,2,3)", "4", "3-1 1-0", "f(1,1,2,1) X Y", "0", "0 1 3")
	becomes(t, "X Y Z V f(0,1,2,3) f(1,2,3,0)", "4 5", "4-5", "f(1,1,1,1) X", "0 0", "0 1 2 3")
	becomes(t, "f(1,1) X f(3,4) Y Z", "0 2 4", "0-2", "f(1,1) X", "0 0 1", "1 3 4")
	// One with a thing that is no variable: all of them are given it, and none of them is left.
	becomes(t, "X Y Z a", "0 1 2", "0-1 1-2 2-3", "a", "0 0 0", "0 1 2")
	becomes(t, "X Y Z f(3)", "0 1 2", "0-1 1-2 0-3", "f(0)", "0 0 0", "0 1 2")
	becomes(t, "X Y 5 V", "0 1 2 3", "2-1 0-1", "5 X", "0 0 0 1", "0 1")
	// One that is left alone stands for itself, though compounds that hold it are in pairs.
	becomes(t, "X f(0) f(0) Y", "1 2 3", "1-2", "f(1) X Y", "0 0 2", "")
	becomes(t, "X f(0,3) f(0,4) Y a", "1 2", "1-2", "f(1,2) X a", "0 0", "3")
}

// P10.1: pairs of unlike names, unlike numbers, unlike numbers of arguments and unlike kinds, met at once and deep down.
func TestUnlike(t *testing.T) {
	// Each is one of its kind, and no two of them can be one.
	things := strings.Fields("a b f -1 0 1 f(0) g(0) f(0,0) f(0,0,0) g(0,0) a(0) .(0,0) .(0) []")
	for i, one := range things {
		for k, other := range things {
			deep := "Z U " + one + " " + other + " h(2) h(3) f(0,1,4) f(1,0,5) f(6) f(7)"
			if i == k {
				becomes(t, "Z U "+one+" "+other, "2 3", "2-3", oneOf(one), "0 0", "")
				becomes(t, deep, "2 3", "8-9", oneOf(one), "0 0", "0 1")
				continue
			}
			never(t, "Z U "+one+" "+other, "2-3")
			never(t, deep, "4-5")
			never(t, deep, "8-9")
			never(t, deep+" V W", "10-2 11-10 11-3")
			never(t, deep+" V f(10)", "10-8 8-9")
		}
	}
}

// oneOf is the least graph's nodes of a thing alone, all of whose arguments are one variable.
func oneOf(thing string) string {
	if strings.Contains(thing, "(") {
		return strings.ReplaceAll(thing, "0", "1") + " X"
	}
	return thing
}

// P10.1: a pair whose solution is there, and one further pair that leaves none.
func TestOneFurtherPair(t *testing.T) {
	becomes(t, "X a b", "0", "0-1", "a", "0", "0")
	becomes(t, "X a b", "0", "0-2", "b", "0", "0")
	never(t, "X a b", "0-1 0-2")
	becomes(t, "X Y a b", "0 1", "0-2 1-3", "a b", "0 1", "0 1")
	never(t, "X Y a b", "0-2 1-3 0-1")
	becomes(t, "f(1,2) X Y f(4,5) a b", "0", "0-3", "f(1,2) a b", "0", "1 2")
	never(t, "f(1,2) X Y f(4,5) a b", "0-3 1-2")
	becomes(t, "X f(0) f(3) a", "0", "0-1", "f(0)", "0", "0")
	becomes(t, "X f(0) f(3) a", "0", "1-2", "a", "0", "0")
	never(t, "X f(0) f(3) a", "0-1 1-2")
	// A clash ahead of pairs that have a solution, too.
	never(t, "X a b c", "1-2 0-3")
	never(t, "X a b c", "0-3 1-2 0-0")
}

// P10.1: what unfolds alike is the same, however it is written.
func TestWrittenOtherwise(t *testing.T) {
	for _, x := range []struct{ list, pairs string }{
		{"a a", "0-1"}, {"7 7", "0-1"}, {"f(2) f(3) a a", "0-1 2-3"}, {"f(0) f(2) f(3) f(1)", "0-1 1-2 0-3"},
		{"f(1) f(2) f(0) f(4) f(3)", "0-3 1-4"}, {"f(1,2) X f(1,0)", "0-2"}, {"f(2,0) f(2,3) X f(2,4) f(2,1)", "0-1 3-4"},
		{"f(1,1) g(4) f(3,5) g(4) a g(6) a", "0-2 1-5"},
	} {
		g := made(x.list, "0 1")
		least, err := bisim.Quotient(g)
		if err != nil {
			t.Fatal(err)
		}
		wantSolve(t, g, paired(x.pairs), least, true)
		wantVerdict(t, g, paired(x.pairs), same, nil)
	}
	// Two variables are unlike as long as nothing makes them one.
	wantVerdict(t, made("f(2) f(3) X Y", ""), paired("0-1"), open, numbers("2 3"))
	wantVerdict(t, made("f(2,0) f(3,1) X Y", ""), paired("0-1"), open, numbers("2 3"))
	// One pair is alike, another is not, or can't be one.
	wantVerdict(t, made("f(2) f(3) a a X", ""), paired("0-1 0-4"), open, numbers("4"))
	wantVerdict(t, made("f(2) f(3) a a X", ""), paired("4-3 0-1"), open, numbers("4"))
	wantVerdict(t, made("f(2) f(3) a a X", ""), paired("0-1 0-3"), apart, nil)
}

// P10.1: variables that hang by a chain of others, and those that don't hang.
func TestChains(t *testing.T) {
	becomes(t, "A B C D E a", "0 1 2 3 4", "0-1 1-2 3-5", "X a Y", "0 0 0 1 2", "0 1 2 3")
	becomes(t, "A B C D E a", "0 1 2 3 4", "0-1 1-2 3-5 2-3", "a Y", "0 0 0 0 1", "0 1 2 3")
	becomes(t, "A B C D f(1) f(2) f(3)", "0 1 2 3", "0-4 1-5 2-6", "f(1) f(2) f(3) X", "0 1 2 3", "0 1 2")
	becomes(t, "A B C D f(1) f(2) f(3) a", "0 1 2 3", "0-4 1-5 2-6 3-7", "f(1) f(2) f(3) a", "0 1 2 3", "0 1 2 3")
	becomes(t, "f(1,2) A B f(2,4) C f(4,1)", "0 3", "0-3", "f(1,1) X", "0 0", "1 2 4")
	becomes(t, "D f(3) f(4) C B A f(0)", "5 4 3 0", "1-6 2-1", "X Y", "0 1 1 1", "0 3 4")
	becomes(t, "Z f(0,0) Y f(2,2) X f(4,4) a", "4", "4-3 2-1", "f(1,1) f(2,2) X", "0", "2 4")
	// None of those that stand ahead, between and behind.
	becomes(t, "A B C D E F G f(1,3) f(3,5)", "", "7-8", "", "", "1 3 5")
	becomes(t, "A B C D E F G f(5,3) f(3,1)", "", "7-8", "", "", "1 3 5")
	becomes(t, "A f(2) C f(4) E", "0 2 4", "1-3", "X Y", "0 1 1", "2 4")
}

// P10.3: instances, and graphs that are none.
func TestInstances(t *testing.T) {
	for _, x := range []struct {
		p, pRoots, t, tRoots string
		want                 bool
	}{
		// Nothing at all, and unlike numbers of roots.
		{"", "", "", "", true}, {"X", "", "a b", "", true}, {"X", "0", "", "", false}, {"", "", "X", "0", false}, {"X", "0 0", "X", "0", false}, {"X", "0", "X", "0 0", false}, {"a", "0", "a", "0 0", false}, {"a", "0 0", "a", "0", false},
		// A variable, and what it is given.
		{"X", "0", "X", "0", true}, {"X", "0", "a", "0", true}, {"X", "0", "-3", "0", true}, {"X", "0", "f(0,1) Y", "0", true}, {"X Y", "1", "a b", "0", true},
		// What is no variable.
		{"a", "0", "a", "0", true}, {"a", "0", "b", "0", false}, {"a", "0", "X", "0", false}, {"7", "0", "7", "0", true}, {"7", "0", "-7", "0", false}, {"7", "0", "a", "0", false}, {"7", "0", "X", "0", false}, {"f(1) a", "0", "X", "0", false}, {"f(1) X", "0", "X", "0", false},
		{"f(1) X", "0", "f(1) a", "0", true}, {"f(1) X", "0", "f(1) Y", "0", true}, {"f(1) a", "0", "f(1) Y", "0", false}, {"f(1) X", "0", "g(1) a", "0", false}, {"f(1) X", "0", "f(1,1) a", "0", false}, {"f(1,1) X", "0", "f(1) a", "0", false}, {"a", "0", "a(1) X", "0", false}, {"a(1) X", "0", "a", "0", false},
		// Variables that stand several times.
		{"X", "0 0", "a", "0 0", true}, {"X", "0 0", "a a", "0 1", true}, {"X", "0 0", "a b", "0 1", false}, {"X", "0 0", "X Y", "0 1", false}, {"X Y", "0 1", "X", "0 0", true}, {"X Y", "0 1", "X Y", "1 0", true}, {"X Y", "0 1 0", "X Y", "1 0 0", false}, {"X Y", "0 1 0", "a b a", "0 1 2", true},
		{"f(1,1) X", "0", "f(1,2) X Y", "0", false}, {"f(1,2) X Y", "0", "f(1,1) X", "0", true}, {"f(1,1) X", "0", "f(1,2) g(3) g(4) a a", "0", true}, {"f(1,1) X", "0", "f(1,2) g(3) g(4) a b", "0", false}, {"f(1,1) X", "0", "f(1,2) g(3) g(4) X Y", "0", false}, {"f(1,1) X", "0", "f(1,2) g(3) g(3) X", "0", true},
		{"f(1,2) X g(1)", "0", "f(1,2) a g(1)", "0", true}, {"f(1,2) X g(1)", "0", "f(1,2) a g(3) b", "0", false}, {"f(1,2) X g(1)", "0", "f(1,2) a X", "0", false}, {"f(1,1) X", "0", "f(1,2) X a", "0", false}, {"f(1,1) X", "0", "f(2,1) X a", "0", false},
		// The names of p and t have nothing to do with one another.
		{"X a", "0 1", "Y a", "0 1", true}, {"X f(0)", "0 1", "f(1) X", "1 0", true}, {"X f(0)", "0 1", "f(0)", "0 0", true}, {"X f(0)", "0 1", "f(1) f(2) a", "0 0", false},
		// Circles in t.
		{"X", "0", "f(0)", "0", true}, {"f(1) X", "0", "f(0)", "0", true}, {"f(1) f(2) f(3) X", "0", "f(0)", "0", true}, {"f(1) a", "0", "f(0)", "0", false}, {"f(1,1) X", "0", "f(0,1) f(1,0)", "0", true}, {"f(1,2) X Y", "0", "f(0,1) f(1,0)", "0", true}, {"f(1,1) X", "0", "f(0,1) g(0)", "0", false}, {"f(1,2) X f(1,2)", "0", "f(1,2) a f(1,0)", "0", true},
		// Circles in p.
		{"f(0)", "0", "f(1) a", "0", false}, {"f(0)", "0", "f(1) X", "0", false}, {"f(0)", "0", "X", "0", false}, {"f(1,0) X", "0", "f(1,2) a f(1,2)", "0", true}, {"f(1,0) X", "0", "f(1,2) a f(3,2) b", "0", false}, {"f(1,0) X", "0", "f(1,2) a f(3,0) a", "0", true}, {"f(1,0) X", "0", "f(1,2) a a", "0", false}, {"f(1,0) X", "0", "f(1,2) X f(3,0) Y", "0", false},
		// Circles in both.
		{"f(0)", "0", "f(0)", "0", true}, {"f(1) f(0)", "0", "f(1) f(2) f(0)", "0", true}, {"f(1) g(0)", "0", "f(1) g(2) f(3) g(0)", "0", true}, {"f(1) g(0)", "0", "f(1) g(2) f(3) f(0)", "0", false}, {"f(0,1) X", "0", "f(0,0)", "0", true}, {"f(0,1) X", "0", "f(1,0) f(0,1)", "0", true}, {"f(0,0)", "0", "f(0,1) X", "0", false}, {"f(0,1) X", "0 1", "f(0,1) f(1,0)", "1 0", true}, {"f(0,1) X", "0 1", "f(0,1) g(0)", "0 1", true}, {"f(0,1) X", "0 1", "f(0,1) g(0)", "0 0", false},
		{"f(1,2) f(0,3) X Y", "0", "f(1,2) f(3,4) a f(0,5) b a", "0", false}, {"f(1,2) f(0,3) X Y", "0", "f(1,2) f(3,4) a f(5,2) b f(0,4)", "0", true},
		// What is not met says nothing.
		{"a X b", "1", "c d", "0", true}, {"a X b", "0", "c a d", "1", true}, {"f(1) X a f(2)", "0", "f(1) Y", "0", true},
	} {
		wantInstance(t, made(x.p, x.pRoots), made(x.t, x.tRoots), x.want)
	}
}

// P10.3: each is an instance of itself, and of a graph that is less than it; two that are instances of one another are the same up to their variables.
func TestRowOfInstances(t *testing.T) {
	row := []api.Graph{
		made("X Y", "0 1"), made("X f(2,3) Y Z", "0 1"), made("X f(2,2) Y", "0 1"), made("f(1,1) X f(3,3) Y", "0 2"),
		made("f(1,1) X", "0 0"), made("f(1,1) f(2,2) X", "0 0"), made("f(0,0)", "0 0"),
	}
	for i, one := range row {
		for k, other := range row {
			wantInstance(t, one, other, i <= k)
			if bisim.Alike(one, other) != (i == k) {
				t.Errorf("%s and %s", telling(one), telling(other))
			}
		}
	}
}

// chain is so many compounds, each of which holds the next in all its places, and what ends them.
func chain(count, wide int, last ...api.Node) []api.Node {
	var out []api.Node
	for i := range count {
		out = append(out, c("f", slices.Repeat([]int{i + 1}, wide)...))
	}
	return append(out, last...)
}

// beside is nodes with others behind them.
func beside(list, others []api.Node) []api.Node {
	first := len(list)
	out := slices.Clone(list)
	for _, m := range others {
		m.Args = slices.Clone(m.Args)
		for k := range m.Args {
			m.Args[k] += first
		}
		out = append(out, m)
	}
	return out
}

// P10.1: as many nodes as may be, as deep as they go, where each node stands at more places of the tree than can be counted.
func TestDeepest(t *testing.T) {
	const half = most / 2
	for _, wide := range []int{1, 2, widest} {
		two := beside(chain(half-1, wide, v()), chain(half-1, wide, a("a")))
		want := of(chain(half-1, wide, a("a")), 0, 0)
		wantSolve(t, of(two, 0, half), [][2]int{{0, half}}, want, true)
		wantVerdict(t, of(two), [][2]int{{0, half}}, open, []int{half - 1})
		two[half-1] = a("b")
		wantSolve(t, of(two, 0, half), [][2]int{{0, half}}, api.Graph{}, false)
		wantVerdict(t, of(two), [][2]int{{0, half}}, apart, nil)
		two[half-1] = a("a")
		wantVerdict(t, of(two), [][2]int{{0, half}}, same, nil)
		one := chain(most-1, wide, v())
		wantSolve(t, of(one, 0, most-1), [][2]int{{0, most - 1}}, of(nodes(c("f", make([]int, wide)...)), 0, 0), true)
		wantVerdict(t, of(one), [][2]int{{0, most - 1}}, open, []int{most - 1})
		wantVerdict(t, of(one), [][2]int{{0, 1}}, open, []int{most - 1})
		one[most-1] = a("a")
		wantVerdict(t, of(one), [][2]int{{0, 1}}, apart, nil)
	}
}

// circle is so many compounds, numbered from first on, each of which holds the next and one of the things, and the last the first.
func circle(count, first int, things []int) []api.Node {
	var out []api.Node
	for i := range count {
		out = append(out, c("f", first+(i+1)%count, things[i]))
	}
	return out
}

// P10.1: circles of numbers of nodes that have no part in common, with something at each place of them.
func TestGreatCircles(t *testing.T) {
	const one, other = 1023, 1024
	// The circles stand ahead, the variables behind them.
	g := api.Graph{Roots: []int{0, one}}
	var things, vars []int
	for i := range one + other {
		things = append(things, one+other+i)
		vars = append(vars, one+other+i)
	}
	g.Nodes = append(circle(one, 0, things[:one]), circle(other, one, things[one:])...)
	for range things {
		g.Nodes = append(g.Nodes, v())
	}
	wantSolve(t, g, [][2]int{{0, one}}, made("f(0,1) X", "0 0"), true)
	wantVerdict(t, g, [][2]int{{0, one}}, open, vars)
	g.Nodes[one+other+17] = a("a")
	wantSolve(t, g, [][2]int{{0, one}}, made("f(0,1) a", "0 0"), true)
	wantVerdict(t, g, [][2]int{{0, one}}, open, slices.Concat(vars[:17], vars[18:]))
	g.Nodes[one+other+1717] = a("b")
	wantSolve(t, g, [][2]int{{0, one}}, api.Graph{}, false)
	wantVerdict(t, g, [][2]int{{0, one}}, apart, nil)
}

// P10.1: all nodes are variables that become one, in several orders, and more pairs than there are nodes.
func TestManyVariables(t *testing.T) {
	g := of(slices.Repeat(nodes(v()), most))
	var all, forth, fan, halves [][2]int
	var vars []int
	for i := range most {
		g.Roots = append(g.Roots, i)
		vars = append(vars, i)
		if i > 0 {
			forth = append(forth, [2]int{i - 1, i})
			fan = append(fan, [2]int{0, i})
			halves = append(halves, [2]int{i / 2, i})
		}
		all = append(all, [2]int{i, (i*i + 7) % most}, [2]int{(i * 5) % most, i}, [2]int{i, i ^ 1})
	}
	want := of(nodes(v()), make([]int, most)...)
	for _, pairs := range [][][2]int{forth, fan, halves, slices.Concat(fan, forth), slices.Concat(all, all, halves, all)} {
		wantSolve(t, g, pairs, want, true)
		wantVerdict(t, g, pairs, open, vars)
	}
	// Without the last pair one is left.
	wantVerdict(t, g, forth[:most-2], open, vars[:most-1])
	wantVerdict(t, g, forth[1:], open, vars[1:])
}

// P10.3: graphs each of which has as many nodes and roots as may be.
func TestGreatInstances(t *testing.T) {
	for _, wide := range []int{1, 2, widest} {
		p, g := of(chain(most-1, wide, v()), 0, most-1), of(chain(most-1, wide, a("a")), 0, most-1)
		wantInstance(t, p, g, true)
		wantInstance(t, g, p, false)
		wantInstance(t, p, p, true)
		loop := of(nodes(c("f", make([]int, wide)...)), 0, 0)
		wantInstance(t, p, loop, true)
		wantInstance(t, g, loop, false)
		wantInstance(t, loop, p, false)
		g.Roots[1] = most - 2
		wantInstance(t, p, g, false)
	}
	g := of(slices.Repeat(nodes(v()), most))
	for i := range most {
		g.Roots = append(g.Roots, i)
	}
	one := of(nodes(a("a")), make([]int, most)...)
	wantInstance(t, g, one, true)
	wantInstance(t, one, g, false)
	wantInstance(t, g, g, true)
	back := api.Graph{Nodes: g.Nodes, Roots: slices.Clone(g.Roots)}
	slices.Reverse(back.Roots)
	wantInstance(t, g, back, true)
	back.Roots[0] = 0
	wantInstance(t, g, back, true)
	wantInstance(t, back, g, false)
}

// P10.3: circles of numbers of nodes that have no part in common, with a variable at each place of p's.
func TestCirclesInstances(t *testing.T) {
	const one, other = 2047, 2048
	var things []int
	for i := range other {
		things = append(things, other+i)
	}
	p := of(append(circle(one, 0, things), slices.Repeat(nodes(v()), 2*other-one)...), 0)
	g := of(append(circle(other, 0, things), slices.Repeat(nodes(c("g", 0)), other)...), 0)
	// All of t's nodes are alike here, and no two things of them there.
	wantInstance(t, p, g, true)
	wantInstance(t, g, p, false)
	for i := range other {
		g.Nodes[other+i] = v()
	}
	wantInstance(t, p, g, false)
	wantInstance(t, g, p, false)
	for i := range other {
		g.Nodes[other+i] = a("a")
	}
	wantInstance(t, p, g, true)
	g.Nodes[other+99] = a("b")
	wantInstance(t, p, g, false)
	wantInstance(t, p, p, true)
	wantInstance(t, g, g, true)
}
