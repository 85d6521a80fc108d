package code_test

import (
	"errors"
	"math"
	"slices"
	"strconv"
	"strings"
	"testing"

	"tendril/api"
	"tendril/code"
)

// isFault tells whether an error is this fault itself, and nothing but that; a cause is a fault itself, too, without a cause of its own.
func isFault(err error, number, at int, name string, cause *api.Fault) bool {
	f, ok := err.(*api.Fault)
	if !ok || f == nil || f.Code != api.Errno(number) || f.At != at || f.Name != name || !errors.Is(err, api.Errno(number)) {
		return false
	}
	if cause == nil {
		return f.Cause == nil
	}
	under, ok := f.Cause.(*api.Fault)
	return ok && under != nil && *under == *cause && errors.Is(err, cause.Code)
}

// wantRefused stops the test unless a program is refused by this fault, with nothing beside it.
func wantRefused(t *testing.T, p api.Program, number, at int, name string, cause *api.Fault) {
	t.Helper()
	x, err := code.Compile(p)
	if !isFault(err, number, at, name, cause) || x.Preds != nil || x.Rules != nil {
		t.Fatalf("%s, %v, want the code %d at %d of %q", short(tellCode(x)), err, number, at, name)
	}
}

// wantQueryRefused stops the test unless goals are refused by this fault, with nothing beside it.
func wantQueryRefused(t *testing.T, x api.Code, goals []api.Goal, number, at int, name string, cause *api.Fault) {
	t.Helper()
	r, names, err := code.Query(x, goals)
	if !isFault(err, number, at, name, cause) || r.Pred != 0 || r.Goals != nil || r.Graph.Nodes != nil || r.Graph.Roots != nil || names != nil {
		t.Fatalf("%s %q, %v, want the code %d at %d of %q", short(tellRule(r)), names, err, number, at, name)
	}
}

// big is chapter 8's fault of so many parts.
func big(count int) *api.Fault { return &api.Fault{Code: errBig, At: count} }

// facts is so many clauses of one predicate.
func facts(count int) []api.Clause {
	return slices.Repeat([]api.Clause{clause(a("fact"))}, count)
}

// numbered is so many names that are unlike.
func numbered(first string, count int) []string {
	var out []string
	for i := range count {
		out = append(out, first+strconv.Itoa(i))
	}
	return out
}

// P16.1: as many clauses as may be, and more.
func TestManyClauses(t *testing.T) {
	for _, count := range []int{mostClauses - 1, mostClauses} {
		x := mustCompile(t, api.Program{Clauses: facts(count)})
		if len(x.Rules) != count || len(x.Preds) != 1 || len(x.Preds[0].Clauses) != count || code.Check(x) != nil {
			t.Fatal(len(x.Rules), x.Preds)
		}
		wantSelect(t, x, 0, api.Key{}, x.Preds[0].Clauses...)
	}
	for _, count := range []int{mostClauses + 1, mostClauses + 2, 2 * mostClauses, 100000} {
		wantRefused(t, api.Program{Clauses: facts(count)}, errClauses, count, "", nil)
		wantRefused(t, api.Program{Clauses: make([]api.Clause, count)}, errClauses, count, "", nil)
	}
}

// P16.1: as many goals as may be, and more, in the first, a middle and the last clause, and in a query.
func TestManyGoals(t *testing.T) {
	goals := func(count int) []api.Goal { return slices.Repeat([]api.Goal{calls(a("fact"))}, count) }
	for _, at := range []int{0, 3, 6} {
		for _, count := range []int{mostGoals - 1, mostGoals} {
			p := api.Program{Clauses: facts(7)}
			p.Clauses[at].Body = goals(count)
			x := mustCompile(t, p)
			if len(x.Rules[at].Goals) != count || code.Check(x) != nil {
				t.Fatal(x.Rules[at])
			}
			if r, _, err := code.Query(x, goals(count)); err != nil || len(r.Goals) != count {
				t.Fatal(r, err)
			}
		}
		for _, count := range []int{mostGoals + 1, mostGoals + 2, 100000} {
			p := api.Program{Clauses: facts(7)}
			p.Clauses[at].Body = goals(count)
			wantRefused(t, p, errGoals, at, "", nil)
			p.Clauses[at].Body = make([]api.Goal, count)
			wantRefused(t, p, errGoals, at, "", nil)
		}
	}
	x := mustCompile(t, program("fact."))
	for _, count := range []int{mostGoals + 1, mostGoals + 2, 100000} {
		wantQueryRefused(t, x, goals(count), errGoals, count, "", nil)
		wantQueryRefused(t, x, make([]api.Goal, count), errGoals, count, "", nil)
	}
}

// declared is declarations of so many predicates, defined is clauses of so many.
func declared(first string, count int) []api.Decl {
	var out []api.Decl
	for _, name := range numbered(first, count) {
		out = append(out, api.Decl{Name: name, Arity: len(out) % (widest + 1)})
	}
	return out
}

func defined(first string, count int) []api.Clause {
	var out []api.Clause
	for _, name := range numbered(first, count) {
		out = append(out, clause(applied(name, len(out)%(widest+1), a("a"))))
	}
	return out
}

// P16.1: as many predicates as may be, and more: declared ones, those of heads, and both.
func TestManyPredicates(t *testing.T) {
	for _, x := range []struct{ decls, heads int }{{mostPreds, 0}, {0, mostPreds}, {60, mostPreds - 60}, {mostPreds - 1, 1}, {1, mostPreds - 1}} {
		p := api.Program{Decls: declared("d", x.decls), Clauses: defined("h", x.heads)}
		if got := mustCompile(t, p); len(got.Preds) != mostPreds || code.Check(got) != nil {
			t.Fatal(len(got.Preds))
		}
		// What is declared and has clauses counts once, as do several clauses.
		both := api.Program{Decls: p.Decls, Clauses: slices.Concat(p.Clauses, defined("d", x.decls)[:min(x.decls, 50)], p.Clauses[:min(x.heads, 50)])}
		if got := mustCompile(t, both); len(got.Preds) != mostPreds || code.Check(got) != nil {
			t.Fatal(len(got.Preds))
		}
		for more := 1; more <= 3; more++ {
			wantRefused(t, api.Program{Decls: append(declared("e", more), p.Decls...), Clauses: p.Clauses}, errPreds, mostPreds+more, "", nil)
			wantRefused(t, api.Program{Decls: p.Decls, Clauses: append(defined("e", more), p.Clauses...)}, errPreds, mostPreds+more, "", nil)
			wantRefused(t, api.Program{Decls: p.Decls, Clauses: append(p.Clauses[:x.heads:x.heads], defined("e", more)...)}, errPreds, mostPreds+more, "", nil)
		}
	}
	wantRefused(t, api.Program{Decls: declared("d", 50000)}, errPreds, 50000, "", nil)
	wantRefused(t, api.Program{Decls: declared("d", 50000), Clauses: defined("h", mostClauses)}, errPreds, 50000+mostClauses, "", nil)
}

// P16.1: as many arguments as may be, and more: of declarations, heads and calls.
func TestManyArguments(t *testing.T) {
	for arity := 0; arity <= widest; arity++ {
		x := mustCompile(t, api.Program{Decls: []api.Decl{{Name: "d", Arity: arity}}, Clauses: []api.Clause{clause(applied("p", arity, v("X")), calls(applied("p", arity, a("a"))), calls(applied("d", arity, v("_"))))}})
		if x.Preds[0].Arity != arity || x.Preds[1].Arity != arity || len(x.Rules[0].Graph.Roots) != 3*arity || code.Check(x) != nil {
			t.Fatal(tellCode(x))
		}
		if r, names, err := code.Query(x, []api.Goal{calls(applied("d", arity, v("X"))), calls(applied("p", arity, v("X")))}); err != nil || len(r.Graph.Roots) != 2*arity+len(names) {
			t.Fatal(r, names, err)
		}
	}
	x := mustCompile(t, program("p."))
	for _, arity := range []int{widest + 1, widest + 2, 100} {
		wantRefused(t, api.Program{Clauses: []api.Clause{clause(applied("p", arity, v("X")))}}, errHead, 0, "", nil)
		wantRefused(t, api.Program{Clauses: []api.Clause{clause(a("p"), calls(applied("p", arity, v("X"))))}}, errGoal, 0, "", nil)
		wantQueryRefused(t, x, []api.Goal{calls(applied("p", arity, v("X")))}, errGoal, 0, "", nil)
	}
}

// P16.1: declarations that may not be, at the first, a middle and the last place, and those that may.
func TestDeclarations(t *testing.T) {
	long := strings.Repeat("x", longest)
	fresh := func() api.Program { return program("co a/0. co b/1. co c/2. co d/3. co e/4. p :- a.") }
	var bad []api.Decl
	for _, name := range []string{"", " ", "a b", "a\n", "\x00", "\x7f", "é", "\xff", long + "x", strings.Repeat("x", 100000)} {
		bad = append(bad, api.Decl{Name: name}, api.Decl{Name: name, Arity: 3}, api.Decl{Name: name, Arity: 9})
	}
	for _, arity := range []int{-1, -2, widest + 1, widest + 2, math.MinInt, math.MaxInt, 1 << 32, -1 << 32, 256} {
		bad = append(bad, api.Decl{Name: "p", Arity: arity}, api.Decl{Name: "dif", Arity: arity}, api.Decl{Name: "[]", Arity: arity})
	}
	bad = append(bad, api.Decl{Name: "dif", Arity: 2})
	for _, d := range bad {
		for at := range 5 {
			p := fresh()
			p.Decls[at] = d
			wantRefused(t, p, errDecl, at, "", nil)
		}
	}
	good := []api.Decl{{Name: "!"}, {Name: "~", Arity: 8}, {Name: long, Arity: 8}, {Name: "[]"}, {Name: "[]", Arity: 2}, {Name: ".", Arity: 2}, {Name: "."}, {Name: "A"}, {Name: "_", Arity: 1}, {Name: "co"}, {Name: "where", Arity: 2}, {Name: "a'\\"}, {Name: "9"}, {Name: "a", Arity: 1}, {Name: "b"}, {Name: "c", Arity: 1}}
	for arity := 0; arity <= widest; arity++ {
		if arity != 2 {
			good = append(good, api.Decl{Name: "dif", Arity: arity})
		}
	}
	for _, d := range good {
		for _, at := range []int{1, 3, 4} {
			p := fresh()
			p.Decls[at] = d
			x := mustCompile(t, p)
			if got := x.Preds[at]; got.Name != d.Name || got.Arity != d.Arity || !got.Co || len(got.Clauses) > 0 || code.Check(x) != nil {
				t.Fatal(got)
			}
		}
	}
}

// P16.1: a declaration that stands ahead already.
func TestDeclaredTwice(t *testing.T) {
	wantRefused(t, program("co p/0. co p/0."), errDecl, 1, "", nil)
	wantRefused(t, program("co a/1. co b/1. co a/2. co c/1. co b/1. co a/1."), errDecl, 4, "", nil)
	wantRefused(t, program("co a/1. co b/1. co a/2. co c/1. co d/1. co a/1."), errDecl, 5, "", nil)
	wantRefused(t, program("co a/1. co b/1. co b/1. co b/1. co a/1."), errDecl, 2, "", nil)
	// Of several faults it is the first, whatever it is.
	wantRefused(t, api.Program{Decls: []api.Decl{{Name: "a"}, {Name: "dif", Arity: 2}, {Name: "a"}}}, errDecl, 1, "", nil)
	wantRefused(t, api.Program{Decls: []api.Decl{{Name: "a"}, {Name: "a"}, {Name: "dif", Arity: 2}}}, errDecl, 1, "", nil)
	wantRefused(t, api.Program{Decls: []api.Decl{{Name: "a"}, {Name: "b"}, {Name: "b", Arity: -1}, {Name: ""}}}, errDecl, 2, "", nil)
}

// notGood is terms that aren't good, in each of the ways that chapter 7 names, but for those of variables and integers.
func notGood() map[string]api.Expr {
	f := []api.Expr{a("a")}
	out := map[string]api.Expr{
		"nothing": {}, "no kind with a name": {Name: "p"}, "no kind with a number": {Num: 1}, "no kind with arguments": {Name: "p", Args: f},
		"the kind -1": {Kind: -1, Name: "p"}, "the kind 5": {Kind: 5, Name: "p"}, "the kind 258": {Kind: 258, Name: "p"}, "the kind 1 << 32 + 4": {Kind: 1<<32 + 4, Name: "p", Args: f},
		"an atom with a number": {Kind: kAtom, Name: "p", Num: -1}, "an atom with arguments": {Kind: kAtom, Name: "p", Args: f},
		"a variable with a number": {Kind: kVar, Name: "X", Num: 1}, "a variable spelt like an atom": v("p"), "an integer with a name": {Kind: kInt, Name: "p"}, "an integer too great": n(great + 1),
		"a compound with a number": {Kind: kComp, Name: "p", Num: 1, Args: f}, "a compound without arguments": c("p"), "a compound with no arguments": {Kind: kComp, Name: "p", Args: []api.Expr{}},
		"a compound with too many arguments": c("p", many(widest+1, a("a"))...), "too deep": within(most+1, a("a")),
		"a compound of what isn't good": c("p", a("a"), api.Expr{}), "deeper, what isn't good": c("p", c("f", a("a"), c("g", n(great+1)))), "deeper, no variable": c("p", c("f", v("x"))),
	}
	for _, name := range []string{"", " ", "a b", "a\n", "\x00", "\x7f", "é", strings.Repeat("a", longest+1)} {
		out["the atom "+name] = a(name)
		out["the compound "+name] = c(name, f...)
	}
	self := c("p", a("a"), a("a"))
	self.Args[1] = self
	out["a term that holds itself"] = self
	return out
}

// P16.1: what may be called: good, an atom or a compound, and none that is set apart.
func TestMayBeCalled(t *testing.T) {
	long := strings.Repeat("x", longest)
	good := map[string]api.Expr{
		"p/0": a("p"), "p/1": c("p", v("X")), "p/8": applied("p", 8, v("_")), "'[]'/1": c("[]", n(1)), "'[]'/2": c("[]", n(1), n(2)), "'[]'/8": applied("[]", 8, n(1)), "'.'/0": a("."), "'.'/1": c(".", a("a")), "'.'/3": applied(".", 3, a("a")), "'.'/8": applied(".", 8, a("a")),
		"dif/0": a("dif"), "dif/1": c("dif", v("X")), "dif/3": applied("dif", 3, v("X")), "dif/8": applied("dif", 8, v("X")), "'A'/0": a("A"), "'_'/0": a("_"), "'_'/2": c("_", v("X"), v("_")), "'1'/1": c("1", n(1)), `'\'\\'/1`: c(`'\`, a("a")),
		"co/0": a("co"), "where/0": a("where"), long + "/0": a(long), long + "/2": c(long, n(great), n(-great)), "'='/2": c("=", v("X"), v("Y")), "'Dif'/2": c("Dif", v("X"), v("Y")), "'[]\\''/0": a("[]'"), "'..'/2": c("..", v("X"), v("Y")),
	}
	for name, e := range good {
		x := mustCompile(t, api.Program{Clauses: []api.Clause{clause(a("q")), clause(e), clause(a("r"), calls(e))}})
		if x.Preds[1].Name != e.Name || x.Preds[1].Arity != len(e.Args) || x.Rules[2].Goals[0] != (api.Step{Kind: call, Pred: 1}) || code.Name(x.Preds[1]) != name || code.Check(x) != nil {
			t.Fatal(name, tellCode(x))
		}
		if r, _, err := code.Query(x, []api.Goal{calls(e)}); err != nil || r.Goals[0] != (api.Step{Kind: call, Pred: 1}) {
			t.Fatal(name, r, err)
		}
		wantRefused(t, api.Program{Clauses: []api.Clause{clause(a("nobody"), calls(e))}}, errUnknown, 0, name, nil)
		wantQueryRefused(t, api.Code{}, []api.Goal{calls(e)}, errUnknown, 0, name, nil)
	}
	bad := notGood()
	bad["a variable"], bad["_"], bad["an integer"], bad["a negative integer"] = v("X"), v("_"), n(0), n(-5)
	bad["the empty list"], bad["a pair"], bad["a list"], bad["dif with two"] = a("[]"), c(".", a("a"), v("T")), c(".", a("a"), a("[]")), c("dif", v("X"), v("Y"))
	x := mustCompile(t, program("p. p(X). co p/2. co '[]'/0. co '.'/2."))
	for what, e := range bad {
		t.Run(what, func(t *testing.T) {
			for _, at := range []int{0, 2, 4} {
				p := program("p. q(X) :- p. r :- p, q(a), p. s :- r. t.")
				p.Clauses[at].Head = e
				wantRefused(t, p, errHead, at, "", nil)
				for place := range 3 {
					p := program("p. q(X) :- p. r :- p, q(a), p. s :- r. t.")
					p.Clauses[at].Body = query("p, q(a), X = Y.")
					p.Clauses[at].Body[place] = calls(e)
					wantRefused(t, p, errGoal, at, "", nil)
				}
			}
			for place := range 3 {
				goals := query("p, p(a), X = Y.")
				goals[place] = calls(e)
				wantQueryRefused(t, x, goals, errGoal, place, "", nil)
			}
		})
	}
}

// badGoals is goals that may not be, of each kind and of none.
func badGoals() map[string]api.Goal {
	out := map[string]api.Goal{}
	for _, kind := range []int{0, -1, 4, 5, 257, 1<<32 + 1, math.MinInt, math.MaxInt} {
		out["the kind "+strconv.Itoa(kind)] = api.Goal{Kind: kind, A: a("p")}
		out["two sides of the kind "+strconv.Itoa(kind)] = api.Goal{Kind: kind, A: a("p"), B: a("p")}
		out["nothing of the kind "+strconv.Itoa(kind)] = api.Goal{Kind: kind}
	}
	for what, b := range map[string]api.Expr{"an atom": a("b"), "a variable": v("X"), "a kind": {Kind: kInt}, "no kind": {Kind: -1}, "a name": {Name: "b"}, "a number": {Num: 1}, "arguments": {Args: []api.Expr{{}}}, "a compound": c("f", a("a"))} {
		out["a call that has beside it "+what] = api.Goal{Kind: call, A: a("p"), B: b}
		out["what is unknown that has beside it "+what] = api.Goal{Kind: call, A: a("unknown"), B: b}
	}
	for what, e := range notGood() {
		out["an equation, left, "+what], out["an equation, right, "+what] = one(e, v("X")), one(v("X"), e)
		out["a disequality, left, "+what], out["a disequality, right, "+what] = unlike(e, v("X")), unlike(v("X"), e)
		out["both sides of an equation, "+what] = one(e, e)
	}
	return out
}

// P16.1: goals that may not be, at the first, a middle and the last place, of the first, a middle and the last clause.
func TestBadGoals(t *testing.T) {
	x := mustCompile(t, program("p. p(X)."))
	for what, g := range badGoals() {
		t.Run(what, func(t *testing.T) {
			for place := range 3 {
				goals := query("p, p(a), X = Y.")
				goals[place] = g
				wantQueryRefused(t, x, goals, errGoal, place, "", nil)
				for _, at := range []int{0, 1, 2} {
					p := program("p. p(X). p :- X = Y.")
					p.Clauses[at].Body = goals
					wantRefused(t, p, errGoal, at, "", nil)
				}
			}
		})
	}
}

// P16.1: equations and disequalities may have any good sides; the zero term may have an empty list.
func TestGoodGoals(t *testing.T) {
	sides := []api.Expr{v("X"), v("_"), a("a"), a("[]"), n(0), n(great), n(-great), c(".", a("a"), a("[]")), c("dif", v("X"), v("Y")), c("f", c("dif", v("X"), v("_"))), applied("f", 8, v("Z")), c("=", v("X"), v("X")), within(50, v("X"))}
	for _, left := range sides {
		for _, right := range sides {
			goals := []api.Goal{one(left, right), unlike(left, right), one(right, left)}
			p := api.Program{Clauses: []api.Clause{clause(a("p"), goals...)}}
			want, fault := compiled(p)
			if fault != nil {
				t.Fatal(fault)
			}
			wantCode(t, p, want)
			r, names, fault := asked(api.Code{}, goals)
			if fault != nil {
				t.Fatal(fault)
			}
			wantQuery(t, api.Code{}, goals, r, names...)
		}
	}
	empty := api.Goal{Kind: call, A: api.Expr{Kind: kAtom, Name: "p", Args: []api.Expr{}}, B: api.Expr{Args: []api.Expr{}}}
	x := api.Code{Preds: []api.Pred{pred("p", 0, false, 0)}, Rules: []api.Rule{rule(0, "0", "", "")}}
	wantCode(t, api.Program{Decls: []api.Decl{}, Clauses: []api.Clause{clause(empty.A, empty)}}, x)
	wantQuery(t, x, []api.Goal{empty}, rule(-1, "0", "", ""))
}

// filled is terms that count as so many parts together, no more than three of them.
func filled(count int) []api.Expr {
	half := count / 2
	return []api.Expr{a("a"), within(half-1, n(3)), within(count-half-2, a("b"))}
}

// P16.1: as many parts as may be, and more, in the first, a middle and the last clause: the cause is chapter 8's fault.
func TestTooBig(t *testing.T) {
	shapes := map[string]func(parts []api.Expr) api.Clause{
		"a head": func(parts []api.Expr) api.Clause { return clause(c("p", parts...)) },
		"a call": func(parts []api.Expr) api.Clause { return clause(a("q"), calls(c("p", parts...))) },
		"all": func(parts []api.Expr) api.Clause {
			return clause(c("r", parts[0]), calls(c("r", parts[1])), calls(c("r", parts[2])))
		},
		"an equation": func(parts []api.Expr) api.Clause { return clause(c("r", parts[2]), one(parts[0], parts[1])) },
		"a disequality": func(parts []api.Expr) api.Clause {
			return clause(c("r", parts[1]), calls(a("q")), unlike(parts[0], parts[2]))
		},
	}
	for what, shape := range shapes {
		for _, at := range []int{0, 2, 4} {
			p := program("co p/3. co q/0. co r/1. p(X, Y, Z). q :- q. r(X). q. p(X, X, X) :- X = X.")
			for _, count := range []int{most - 1, most} {
				p.Clauses[at] = shape(filled(count))
				if x, err := code.Compile(p); err != nil || code.Check(x) != nil {
					t.Fatal(what, at, err)
				}
			}
			for _, count := range []int{most + 1, most + 2, 3 * most / 2} {
				p.Clauses[at] = shape(filled(count))
				wantRefused(t, p, errTie, at, "", big(count))
			}
		}
		x := mustCompile(t, program("co p/3. co q/0. co r/1."))
		full := shape(filled(most))
		goals := full.Body
		for _, e := range full.Head.Args {
			goals = append(goals, calls(c("r", e)))
		}
		if _, _, err := code.Query(x, goals); err != nil {
			t.Fatal(what, err)
		}
		for more := 1; more < 4; more++ {
			goals = append(goals, calls(c("r", v("_"))))
			wantQueryRefused(t, x, goals, errTie, -1, "", big(most+more))
		}
	}
}

// tree is a term in which so many variables stand, of names that begin so, in no more compounds than must be.
func tree(first string, count int) api.Expr {
	var row []api.Expr
	for _, name := range numbered(first, count) {
		row = append(row, v(name))
	}
	for len(row) > 1 {
		var up []api.Expr
		for part := range slices.Chunk(row, widest) {
			up = append(up, c("t", slices.Clone(part)...))
		}
		row = up
	}
	return row[0]
}

// compounds is how many compounds are in a term.
func compounds(e api.Expr) int {
	sum := 0
	if e.Kind == kComp {
		sum = 1
	}
	for _, x := range e.Args {
		sum += compounds(x)
	}
	return sum
}

// P16.1: a query's variables are terms, too: more than chapter 8 takes are refused by its fault, ahead of too many parts.
func TestManyVariables(t *testing.T) {
	x := mustCompile(t, program("p(X). q(X, Y)."))
	goals := func(count int) []api.Goal { return []api.Goal{calls(c("p", tree("X", count)))} }
	// One term beside the variables.
	for _, count := range []int{most - 1, most - 2, most - 100} {
		wantQueryRefused(t, x, goals(count), errTie, -1, "", big(count+compounds(tree("X", count))))
	}
	for _, count := range []int{most, most + 1, 2 * most} {
		wantQueryRefused(t, x, goals(count), errTie, -1, "", &api.Fault{Code: errExprs, At: count + 1})
	}
	more := append(goals(most-3), one(v("X0"), v("X1")))
	wantQueryRefused(t, x, more, errTie, -1, "", big(most-3+compounds(tree("X", most-3))))
	more = append(more, calls(c("q", v("X2"), v("_"))))
	wantQueryRefused(t, x, more, errTie, -1, "", &api.Fault{Code: errExprs, At: most - 3 + 5})
	// A clause has no such variables: it is too big alone.
	wantRefused(t, api.Program{Clauses: []api.Clause{clause(c("p", tree("X", 2*most)))}}, errTie, 0, "", big(2*most+compounds(tree("X", 2*most))))
	// As many as have room.
	count := 3580
	for count+compounds(tree("X", count)) < most {
		count++
	}
	r, names, err := code.Query(x, goals(count))
	if err != nil || len(names) != count || names[count-1] != "X"+strconv.Itoa(count-1) || len(r.Graph.Roots) != count+1 || len(r.Graph.Nodes) != most {
		t.Fatal(err, len(names), len(r.Graph.Nodes))
	}
	wantQueryRefused(t, x, append(goals(count), calls(c("p", v("_")))), errTie, -1, "", big(most+1))
}

// P16.1: how deep terms may be in heads, calls and sides.
func TestDeepest(t *testing.T) {
	x := mustCompile(t, api.Program{Clauses: []api.Clause{clause(c("p", within(most-1, v("X"))), one(v("X"), v("X")))}})
	if len(x.Rules[0].Graph.Nodes) != most || code.Check(x) != nil {
		t.Fatal(len(x.Rules[0].Graph.Nodes))
	}
	wantRefused(t, api.Program{Clauses: []api.Clause{clause(c("p", within(most, v("X"))))}}, errHead, 0, "", nil)
	wantRefused(t, api.Program{Clauses: []api.Clause{clause(a("p"), calls(c("p", within(most, v("X")))))}}, errGoal, 0, "", nil)
	// Chapter 8 has no room for a term as deep as may be.
	wantRefused(t, api.Program{Clauses: []api.Clause{clause(a("p"), one(v("Y"), within(most, v("X"))))}}, errTie, 0, "", big(most+2))
	wantRefused(t, api.Program{Clauses: []api.Clause{clause(c("p", within(most-1, v("X"))), one(v("X"), v("Y")))}}, errTie, 0, "", big(most+1))
	wantRefused(t, api.Program{Clauses: []api.Clause{clause(a("p"), one(v("Y"), within(most+1, v("X"))))}}, errGoal, 0, "", nil)
	wantQueryRefused(t, x, []api.Goal{unlike(within(most, v("X")), within(most, v("X")))}, errTie, -1, "", big(2*most+1))
	wantQueryRefused(t, x, []api.Goal{unlike(within(most, v("X")), within(most+1, v("X")))}, errGoal, 0, "", nil)
}

// P16.1: calls of predicates that nobody declares or defines, at each place of each clause.
func TestUnknown(t *testing.T) {
	for name, e := range map[string]api.Expr{"u/0": a("u"), "p/2": c("p", v("X"), a("a")), "'U'/1": c("U", v("X")), "q/1": c("q", a("a")), "dif/3": applied("dif", 3, v("X")), "r/0": a("r"), "'a\\'b'/1": c("a'b", n(1))} {
		for _, at := range []int{0, 1, 2} {
			for place := range 3 {
				p := program("co q/0. p(X) :- q, p(a), X = q. p :- p, p, p(q). r(X) :- q, p, r(u).")
				p.Clauses[at].Body[place] = calls(e)
				wantRefused(t, p, errUnknown, at, name, nil)
			}
		}
		x := mustCompile(t, program("co q/0. p(X). p. r(X)."))
		for place := range 3 {
			goals := query("q, p(a), X = q.")
			goals[place] = calls(e)
			wantQueryRefused(t, x, goals, errUnknown, place, name, nil)
		}
	}
	// The first one is told: by clauses, then by goals.
	wantRefused(t, program("p :- p, a, b. q :- c."), errUnknown, 0, "a/0", nil)
	wantRefused(t, program("p :- p. q :- p, c, a. r :- b."), errUnknown, 1, "c/0", nil)
	wantQueryRefused(t, mustCompile(t, program("p.")), query("p, b, a, b."), errUnknown, 1, "b/0", nil)
	// Terms that aren't called need no predicate.
	x := mustCompile(t, program("p(u(v)) :- w = x(y), dif(z, u), p(w)."))
	wantQuery(t, x, query("p(k)."), rule(-1, "0", "k", "0"))
}

// spoilt is a way to spoil a program, and the fault by which it is then refused.
type spoilt struct {
	spoil func(p *api.Program)
	code  int
	at    int
	name  string
	cause *api.Fault
}

const orderly = "co a/0. co b/1. co c/2. k(X) :- a, b(X), X = Y, a. l(X) :- a, b(X), X = Y, a. m(X) :- a, b(X), X = Y, a."

// spoils is one way for each step of 'The order', in this order.
func spoils() []spoilt {
	out := []spoilt{{func(p *api.Program) { p.Clauses = append(p.Clauses, facts(mostClauses)...) }, errClauses, mostClauses + 3, "", nil}}
	for at, d := range []api.Decl{{Name: "a b"}, {Name: "dif", Arity: 2}, {Name: "c", Arity: 9}} {
		out = append(out, spoilt{func(p *api.Program) { p.Decls[at] = d }, errDecl, at, "", nil})
	}
	for at := range 3 {
		body := func(place int, g api.Goal) func(*api.Program) {
			return func(p *api.Program) { p.Clauses[at].Body[place] = g }
		}
		out = append(out,
			spoilt{func(p *api.Program) { p.Clauses[at].Head = v("X") }, errHead, at, "", nil},
			spoilt{func(p *api.Program) {
				p.Clauses[at].Body = append(p.Clauses[at].Body, slices.Repeat(query("a."), mostGoals)...)
			}, errGoals, at, "", nil},
			spoilt{body(1, api.Goal{}), errGoal, at, "", nil},
			spoilt{body(2, one(within(most, v("X")), a("a"))), errTie, at, "", big(most + 2)})
	}
	out = append(out, spoilt{func(p *api.Program) { p.Decls = append(p.Decls, declared("d", mostPreds)...) }, errPreds, mostPreds + 6, "", nil})
	for at := range 3 {
		name := numbered("u", 3)[at]
		out = append(out, spoilt{func(p *api.Program) { p.Clauses[at].Body[0] = calls(a(name)) }, errUnknown, at, name + "/0", nil})
	}
	return out
}

// P16.1: of two faults of a program the first in the chapter's order is told, and of all of them, too.
func TestTwoFaults(t *testing.T) {
	if x := mustCompile(t, program(orderly)); len(x.Preds) != 6 {
		t.Fatal(tellCode(x))
	}
	list := spoils()
	for i, first := range list {
		p := program(orderly)
		first.spoil(&p)
		wantRefused(t, p, first.code, first.at, first.name, first.cause)
		for j := i + 1; j < len(list); j++ {
			p := program(orderly)
			list[j].spoil(&p)
			first.spoil(&p)
			wantRefused(t, p, first.code, first.at, first.name, first.cause)
		}
		all := program(orderly)
		for j := len(list) - 1; j >= i; j-- {
			list[j].spoil(&all)
		}
		wantRefused(t, all, first.code, first.at, first.name, first.cause)
	}
}

// spoiltQuery is a way to spoil a code or goals, and the fault by which they are then refused.
type spoiltQuery struct {
	spoil func(x *api.Code, goals *[]api.Goal)
	code  int
	at    int
	name  string
	cause *api.Fault
}

// P16.1: of two faults of a query the first in the chapter's order is told, and of all of them, too.
func TestTwoFaultsOfQueries(t *testing.T) {
	list := []spoiltQuery{
		{func(x *api.Code, goals *[]api.Goal) { x.Preds[0].Arity = -1 }, errTemplate, -1, "", nil},
		{func(x *api.Code, goals *[]api.Goal) {
			*goals = append(*goals, slices.Repeat(query("a."), mostGoals)...)
		}, errGoals, mostGoals + 7, "", nil},
	}
	goal := func(place int, g api.Goal) func(*api.Code, *[]api.Goal) {
		return func(x *api.Code, goals *[]api.Goal) { (*goals)[place] = g }
	}
	for place := range 6 {
		if place%2 == 0 {
			list = append(list, spoiltQuery{goal(place, api.Goal{Kind: call, A: a("u"), B: a("b")}), errGoal, place, "", nil})
		} else {
			list = append(list, spoiltQuery{goal(place, calls(a("u"))), errUnknown, place, "u/0", nil})
		}
	}
	list = append(list, spoiltQuery{goal(6, one(within(most, n(1)), a("a"))), errTie, -1, "", big(most + 2)})
	for i, first := range list {
		for j := i; j <= len(list); j++ {
			x, goals := mustCompile(t, program("a.")), query("a, a, a, a, a, a, a.")
			switch {
			case j == i:
			case j < len(list):
				list[j].spoil(&x, &goals)
			default:
				for k := len(list) - 1; k > i; k-- {
					list[k].spoil(&x, &goals)
				}
			}
			first.spoil(&x, &goals)
			wantQueryRefused(t, x, goals, first.code, first.at, first.name, first.cause)
		}
	}
}
