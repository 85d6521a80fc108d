package tie_test

import (
	"errors"
	"math"
	"slices"
	"strings"
	"testing"

	"tendril/api"
	"tendril/tie"
)

// isFault tells whether an error is this fault itself, with no cause, and nothing but that.
func isFault(err error, code, at int, name string) bool {
	f, ok := err.(*api.Fault)
	return ok && f != nil && *f == api.Fault{Code: api.Errno(code), At: at, Name: name} && errors.Is(err, api.Errno(code))
}

// wantFault stops the test unless both calls refuse the terms by this fault, with nothing beside it.
func wantFault(t *testing.T, x api.Terms, code, at int, name string) {
	t.Helper()
	g, names, err := tie.Tie(x.Roots, x.Eqs)
	if !isFault(err, code, at, name) || len(g.Nodes)+len(g.Roots)+len(names) > 0 {
		t.Fatalf("Tie: %s, %v, want the code %d at %d of %q", short(telling(g, names)), err, code, at, name)
	}
	g, err = tie.Read(x)
	if !isFault(err, code, at, name) || len(g.Nodes)+len(g.Roots) > 0 {
		t.Fatalf("Read: %s, %v, want the code %d at %d of %q", short(telling(g, nil)), err, code, at, name)
	}
}

// circle is so many equations of names, each of which leads to the next and the last to the first.
func circle(count int) []api.Eq {
	var out []api.Eq
	for i := range count {
		out = append(out, eq(named(i), v(named((i+1)%count))))
	}
	return out
}

// numbers is so many integers that are unlike.
func numbers(count int) []api.Expr {
	var out []api.Expr
	for i := range count {
		out = append(out, n(i))
	}
	return out
}

// variables is so many names that are unlike.
func variables(count int) []api.Expr {
	var out []api.Expr
	for i := range count {
		out = append(out, v(named(i)))
	}
	return out
}

// P8.1: as many terms as may be, and more.
func TestManyTerms(t *testing.T) {
	g := api.Graph{Nodes: []api.Node{{Kind: kVar}}, Roots: make([]int, most)}
	x := terms(many(most, v("X")), nil)
	wantTied(t, x, g, []api.Named{{Name: "X"}})
	for _, count := range []int{most + 1, most + 2, 2 * most, 100000} {
		for _, e := range []api.Expr{v("X"), a("a"), v("_"), {}} {
			wantFault(t, terms(many(count, e), nil), errExprs, count, "")
		}
	}
	x.Roots[most-1] = a("a")
	g.Nodes, g.Roots[most-1] = append(g.Nodes, node("a")), 1
	wantTied(t, x, g, []api.Named{{Name: "X"}})
	x.Roots[most-1] = api.Expr{}
	wantFault(t, x, errExpr, most-1, "")
}

// P8.1: as many equations as may be, and more.
func TestManyEquations(t *testing.T) {
	var names []api.Named
	for i := range most {
		names = append(names, api.Named{Name: named(i)})
	}
	wantTied(t, terms([]api.Expr{v(named(0))}, circle(most)), read("X", "0"), names)
	wantTied(t, terms(nil, circle(most)), api.Graph{}, nil)
	// Names that nothing leads to count as well.
	wantFault(t, terms([]api.Expr{a("a")}, circle(most)), errBig, most+1, "")
	for _, count := range []int{most + 1, most + 2, 2 * most, 100000} {
		wantFault(t, terms(nil, circle(count)), errEqs, count, "")
		wantFault(t, terms(nil, make([]api.Eq, count)), errEqs, count, "")
		wantFault(t, terms(nil, slices.Repeat([]api.Eq{eq("X", a("a"))}, count)), errEqs, count, "")
	}
	wantFault(t, terms(nil, append(circle(most-1), eq("X", api.Expr{}))), errExpr, most-1, "")
	wantFault(t, terms(nil, append(circle(most-1), eq("_", a("a")))), errEqName, most-1, "_")
	wantFault(t, terms(nil, append(circle(most-1), eq(named(0), a("a")))), errEqTwice, most-1, named(0))
}

// wantCount stops the test unless terms count so many parts: with others that fill it up to the greatest number they are taken, and with one more they are not.
func wantCount(t *testing.T, x api.Terms, count int) {
	t.Helper()
	full := slices.Concat(x.Roots, rows(most-count))
	if _, err := tie.Read(terms(full, x.Eqs)); err != nil {
		t.Fatalf("%s and %d others: %v", text(x), most-count, err)
	}
	for more := 1; more <= 3; more++ {
		wantFault(t, terms(slices.Concat(full, many(more, a("z"))), x.Eqs), errBig, most+more, "")
		wantFault(t, terms(slices.Concat(many(more, v("_")), full), x.Eqs), errBig, most+more, "")
	}
}

// rows is terms that count as so many, and are few.
func rows(count int) []api.Expr {
	var out []api.Expr
	for ; count > widest; count -= widest + 1 {
		out = append(out, c("row", many(widest, n(count))...))
	}
	return append(out, many(count, a("row"))...)
}

// P8.1: what counts how much for ErrBig.
func TestCount(t *testing.T) {
	for source, count := range map[string]int{
		"": 0, "a": 1, "a, a": 2, "1, 1, 1": 3, "_": 1, "_, _": 2, "X": 1, "X, X, X": 1, "X, Y, X": 2,
		"f(a)": 2, "f(a), f(a)": 4, "f(X, X, X)": 2, "f(X), g(X, Y)": 4, "f(_, _, _)": 4, "f(f(f(X)), X)": 4, "[]": 1, "[a, b]": 5, "[a|X]": 3,
		"a where X = a": 3, "a where X = X": 2, "a where X = Y": 3, "X where X = Y": 2, "X where X = X": 1, "X where X = Y, Y = X": 2,
		"a where X = _": 3, "X where X = _": 2, "_ where X = _, Y = _": 5, "X where X = f(X)": 2, "X where X = f(X, _)": 3, "X where X = f(Y, Z), Y = g(X, W)": 6,
		"a where X = 1, Y = 1, Z = 1": 7, "X, Y where X = f(a), Y = f(a)": 6, "_ where _1 = __": 3, "f('X', X) where Y = 'X'(X)": 5,
	} {
		wantCount(t, written(source), count)
	}
	// A list of arguments that stands in several places counts in each.
	e, count := a("a"), 1
	for range 7 {
		e, count = c("f", many(widest, e)...), 1+widest*count
		if count <= most {
			wantCount(t, terms([]api.Expr{e}, nil), count)
			wantCount(t, terms(nil, []api.Eq{eq("X", e)}), count+1)
		} else {
			wantFault(t, terms([]api.Expr{e}, nil), errBig, count, "")
			wantFault(t, terms([]api.Expr{e, v("X")}, []api.Eq{eq("X", e), eq("Y", v("_")), eq("Z", v("X"))}), errBig, 2*count+4, "")
		}
	}
}

// P8.1: as many parts as may be, of one kind alone, and one more.
func TestMostOfOneKind(t *testing.T) {
	g := api.Graph{}
	var names []api.Named
	for i := range most {
		g.Nodes, g.Roots = append(g.Nodes, api.Node{Kind: kVar}), append(g.Roots, i)
		names = append(names, api.Named{Name: named(i), Node: i})
	}
	wantTied(t, terms(variables(most), nil), g, names)
	wantTied(t, terms(many(most, v("_")), nil), g, nil)
	for i := range most {
		g.Nodes[i] = api.Node{Kind: kInt, Num: i}
	}
	wantTied(t, terms(numbers(most), nil), g, nil)
	wantTied(t, terms(many(most, a("a")), nil), api.Graph{Nodes: []api.Node{node("a")}, Roots: make([]int, most)}, nil)
	for _, list := range [][]api.Expr{variables(most), many(most, v("_")), numbers(most), many(most, a("a"))} {
		wantFault(t, terms(list, []api.Eq{eq("X", v("X"))}), errBig, most+1, "")
		wantFault(t, terms(list, []api.Eq{eq("X", a("a"))}), errBig, most+2, "")
		wantFault(t, terms(list[1:], []api.Eq{eq("X", a("a"))}), errBig, most+1, "")
		if _, err := tie.Read(terms(list[1:], []api.Eq{eq("X", v("X"))})); err != nil {
			t.Fatal(err)
		}
	}
	// A name that occurs already counts no further.
	list := variables(most)
	g.Nodes, g.Roots = make([]api.Node, most-1), append(g.Roots[:most-1], 0)
	for i := range g.Nodes {
		g.Nodes[i].Kind = kVar
		names[i].Node = i
	}
	names[most-1].Node = 0
	wantTied(t, terms(list, []api.Eq{eq(named(most-1), v(named(0)))}), g, names)
}

// P8.1: terms as deep as may be: compounds within compounds count each.
func TestDeepest(t *testing.T) {
	var g api.Graph
	for i := range most - 1 {
		g.Nodes = append(g.Nodes, api.Node{Kind: kComp, Name: "f", Args: []int{i + 1}})
	}
	g.Nodes, g.Roots = append(g.Nodes, node("X")), []int{0}
	wantTied(t, terms([]api.Expr{within(most-1, v("X"))}, nil), g, []api.Named{{Name: "X", Node: most - 1}})
	wantFault(t, terms([]api.Expr{within(most, v("X"))}, nil), errBig, most+1, "")
	wantFault(t, terms([]api.Expr{within(most, v("X")), within(most, v("X"))}, nil), errBig, 2*most+1, "")
	wantFault(t, terms([]api.Expr{within(most+1, v("X"))}, nil), errExpr, 0, "")
	wantFault(t, terms([]api.Expr{within(1<<16, v("X"))}, nil), errExpr, 0, "")
	// A circle of that many compounds is one that holds itself.
	wantTied(t, terms([]api.Expr{v("X")}, []api.Eq{eq("X", within(most-1, v("X")))}), read("f(0)", "0"), []api.Named{{Name: "X"}})
	wantFault(t, terms([]api.Expr{v("X")}, []api.Eq{eq("X", within(most, v("X")))}), errBig, most+1, "")
	wantFault(t, terms([]api.Expr{v("X")}, []api.Eq{eq("X", within(most+1, v("X")))}), errExpr, 1, "")
}

// notGood is terms that aren't good, in each of the ways that chapter 7 names.
func notGood() map[string]api.Expr {
	f := []api.Expr{a("a")}
	out := map[string]api.Expr{
		"nothing": {}, "no kind with a name": {Name: "X"}, "no kind with a number": {Num: 1}, "no kind with arguments": {Name: "f", Args: f},
		"the kind -1": {Kind: -1, Name: "a"}, "the kind 5": {Kind: 5, Name: "a"}, "the kind 257": {Kind: 257, Name: "X"}, "the kind 1 << 32 + 4": {Kind: 1<<32 + 4, Name: "f", Args: f},
		"a variable with a number": {Kind: kVar, Name: "X", Num: 1}, "a variable with arguments": {Kind: kVar, Name: "X", Args: f}, "_ with a number": {Kind: kVar, Name: "_", Num: -1}, "_ with arguments": {Kind: kVar, Name: "_", Args: f},
		"an atom with a number": {Kind: kAtom, Name: "a", Num: -1}, "an atom with arguments": {Kind: kAtom, Name: "a", Args: f},
		"an integer with a name": {Kind: kInt, Name: "1", Num: 1}, "an integer with arguments": {Kind: kInt, Num: 1, Args: f},
		"an integer too great": n(great + 1), "an integer too small": n(-great - 1), "the greatest int": n(math.MaxInt), "the least int": n(math.MinInt),
		"a compound with a number": {Kind: kComp, Name: "f", Num: 1, Args: f}, "a compound without arguments": c("f"), "a compound with no arguments": {Kind: kComp, Name: "f", Args: []api.Expr{}},
		"a compound with too many arguments": c("f", many(widest+1, a("a"))...), "too deep": within(most+1, a("a")),
	}
	for _, name := range []string{"", "x", "1", "X ", "X-", "é", "[]", strings.Repeat("X", longest+1)} {
		out["the variable "+name] = v(name)
	}
	for _, name := range []string{"", " ", "a b", "a\n", "\x00", "\x7f", "é", strings.Repeat("a", longest+1)} {
		out["the atom "+name] = a(name)
		out["the compound "+name] = c(name, f...)
	}
	self := c("f", a("a"), a("a"))
	self.Args[1] = self
	out["a term that holds itself"] = self
	everywhere := c("f", many(widest, a("a"))...)
	for i := range everywhere.Args {
		everywhere.Args[i] = everywhere
	}
	out["a term that holds itself everywhere"] = everywhere
	return out
}

// P8.1: terms and right sides that aren't good, alone and as a part, at each place.
func TestNotGood(t *testing.T) {
	for what, e := range notGood() {
		t.Run(what, func(t *testing.T) {
			for _, bad := range []api.Expr{e, c("f", e), c("f", v("X"), a("a"), e), c("g", c("f", a("a"), e), n(1))} {
				for at := range 4 {
					x := written("X, f(Y), _, 1 where X = g(X, Y), Z = _, Y = Z, W = 7")
					x.Roots[at] = bad
					wantFault(t, x, errExpr, at, "")
					x = written("X, f(Y) where X = g(X, Y), Z = _, Y = Z, W = 7")
					x.Eqs[at].Right = bad
					wantFault(t, x, errExpr, 2+at, "")
					wantFault(t, terms(nil, x.Eqs), errExpr, at, "")
				}
			}
		})
	}
}

// P8.1: what is good at its bounds is taken.
func TestGoodAtBounds(t *testing.T) {
	name, atom := "X"+strings.Repeat("y", longest-1), strings.Repeat("~", longest)
	wantTied(t, terms([]api.Expr{v(name), a(atom), c(atom, n(great), n(-great), a("!"))}, nil),
		api.Graph{Nodes: []api.Node{{Kind: kVar}, {Kind: kAtom, Name: atom}, {Kind: kComp, Name: atom, Args: []int{3, 4, 5}}, {Kind: kInt, Num: great}, {Kind: kInt, Num: -great}, {Kind: kAtom, Name: "!"}}, Roots: []int{0, 1, 2}},
		[]api.Named{{Name: name}})
	empty := []api.Expr{}
	wantTied(t, terms([]api.Expr{{Kind: kVar, Name: "X", Args: empty}, {Kind: kAtom, Name: "a", Args: empty}, {Kind: kInt, Num: 3, Args: empty}, {Kind: kVar, Name: "_", Args: empty}}, nil),
		read("X a 3 X", "0 1 2 3"), []api.Named{{Name: "X"}})
}

// P8.1: left sides that are no variable, and those that are.
func TestLeftSides(t *testing.T) {
	long := strings.Repeat("X", longest)
	for _, name := range []string{"", "_", "x", "a", "1", "-1", "[]", ".", " X", "X ", "X-", "X.", "X\n", "X\x00", "É", "Xé", "'X'", "_ ", "__-", long + "X", strings.Repeat("X", 100000), "\xff"} {
		for at := range 3 {
			x := written("X, Y where X = a, Y = X, Z = f(Z)")
			x.Eqs[at].Name = name
			wantFault(t, x, errEqName, at, name)
			wantFault(t, terms(nil, x.Eqs), errEqName, at, name)
		}
	}
	for _, name := range []string{"X", "_1", "__", "_x", "Xy_1", "Z9", "A", long, "_" + long[1:]} {
		wantTied(t, terms([]api.Expr{v(name)}, []api.Eq{eq(name, a("a"))}), read("a", "0"), []api.Named{{Name: name}})
	}
}

// P8.1: two equations with one left side.
func TestTwice(t *testing.T) {
	wantFault(t, written("a where X = a, X = a"), errEqTwice, 1, "X")
	wantFault(t, written("X where X = Y, Y = X, X = Y"), errEqTwice, 2, "X")
	wantFault(t, written("X where X = Y, Y = X, Y = X, X = Y"), errEqTwice, 2, "Y")
	wantFault(t, written("a where A = a, B = b, C = c, D = d, B = b, A = a"), errEqTwice, 4, "B")
	wantFault(t, written("a where X = X, X = X"), errEqTwice, 1, "X")
	wantFault(t, written("a where _1 = a, __ = a, _1 = a"), errEqTwice, 2, "_1")
	// Names are one only if all of their bytes are.
	want(t, "f(X, X1, Xx, XX) where X = 1, X1 = 2, Xx = 3, XX = 4", "f(1,2,3,4) 1 2 3 4", "0", "X=1 X1=2 Xx=3 XX=4")
}

// spoilt is a way to spoil terms, and the fault by which they are then refused.
type spoilt struct {
	spoil func(x *api.Terms)
	code  int
	at    func(x api.Terms) int
	name  string
}

func place(at int) func(api.Terms) int { return func(api.Terms) int { return at } }

func rightSide(at int) func(api.Terms) int {
	return func(x api.Terms) int { return len(x.Roots) + at }
}

// spoils is one way for each fault and place, in the chapter's order.
func spoils() []spoilt {
	badTerm := func(at int) func(*api.Terms) { return func(x *api.Terms) { x.Roots[at] = c("f") } }
	badName := func(at int, name string) func(*api.Terms) { return func(x *api.Terms) { x.Eqs[at].Name = name } }
	badRight := func(at int) func(*api.Terms) { return func(x *api.Terms) { x.Eqs[at].Right = n(great + 1) } }
	return []spoilt{
		{func(x *api.Terms) { x.Roots = append(x.Roots, many(most, v("_"))...) }, errExprs, func(x api.Terms) int { return len(x.Roots) }, ""},
		{func(x *api.Terms) { x.Eqs = append(x.Eqs, circle(most)...) }, errEqs, func(x api.Terms) int { return len(x.Eqs) }, ""},
		{badTerm(0), errExpr, place(0), ""},
		{badTerm(2), errExpr, place(2), ""},
		{badName(0, "x"), errEqName, place(0), "x"},
		{badRight(0), errExpr, rightSide(0), ""},
		{badName(1, "_"), errEqName, place(1), "_"},
		{badRight(1), errExpr, rightSide(1), ""},
		{badName(3, "C"), errEqTwice, place(3), "C"},
		{badRight(3), errExpr, rightSide(3), ""},
		{badName(4, ""), errEqName, place(4), ""},
		{badName(5, "C"), errEqTwice, place(5), "C"},
		{func(x *api.Terms) { x.Eqs[6].Right = within(most, v("_")) }, errBig, place(most + 16), ""},
	}
}

// P8.1: of two faults the first in the chapter's order is told, and of all of them, too.
func TestTwoFaults(t *testing.T) {
	fresh := func() api.Terms { return written("a, X, f(Y) where A = 1, B = 2, C = 3, D = 4, E = E, F = F, G = 5") }
	list := spoils()
	for i, first := range list {
		x := fresh()
		first.spoil(&x)
		wantFault(t, x, first.code, first.at(x), first.name)
		all := fresh()
		for j := len(list) - 1; j >= i; j-- {
			list[j].spoil(&all)
		}
		wantFault(t, all, first.code, first.at(all), first.name)
		for _, second := range list[i+1:] {
			x := fresh()
			second.spoil(&x)
			first.spoil(&x)
			wantFault(t, x, first.code, first.at(x), first.name)
		}
	}
}

// P8.1: faults of one equation, and of one ahead of another.
func TestFaultsOfEquations(t *testing.T) {
	bad := api.Expr{}
	wantFault(t, terms(nil, []api.Eq{eq("x", bad)}), errEqName, 0, "x")
	wantFault(t, terms(nil, []api.Eq{eq("X", bad), eq("X", bad)}), errExpr, 0, "")
	wantFault(t, terms(nil, []api.Eq{eq("X", a("a")), eq("X", bad)}), errEqTwice, 1, "X")
	wantFault(t, terms(nil, []api.Eq{eq("x", a("a")), eq("x", a("a"))}), errEqName, 0, "x")
	wantFault(t, terms(nil, []api.Eq{eq("X", a("a")), eq("Y", bad), eq("X", a("a"))}), errExpr, 1, "")
	wantFault(t, terms(nil, []api.Eq{eq("X", a("a")), eq("X", a("a")), eq("_", a("a"))}), errEqTwice, 1, "X")
	wantFault(t, terms(nil, []api.Eq{eq("X", bad), eq("_", a("a"))}), errExpr, 0, "")
	wantFault(t, terms([]api.Expr{bad}, []api.Eq{eq("_", bad)}), errExpr, 0, "")
	wantFault(t, terms([]api.Expr{a("a"), bad}, []api.Eq{eq("_", bad)}), errExpr, 1, "")
	wantFault(t, terms(many(most, v("_")), []api.Eq{eq("X", bad)}), errExpr, most, "")
	wantFault(t, terms(many(most, v("_")), []api.Eq{eq("X", v("X"))}), errBig, most+1, "")
}
