package parse_test

import (
	"math"
	"slices"
	"strings"
	"testing"

	"tendril/api"
	"tendril/parse"
)

// wantText stops the test unless a term is good and has this text, which means it again.
func wantText(t *testing.T, e api.Expr, text string) {
	t.Helper()
	got, ok := parse.Write(e)
	if !ok || got != text || !parse.Good(e) {
		t.Fatalf("Write(%s) = %s, %v, want %s", short(telling(e)), short(got), ok, short(text))
	}
	wantTerms(t, text, e)
}

// wantBad stops the test unless a term isn't good, and has no text, nor any clause in which it is told.
func wantBad(t *testing.T, what string, e api.Expr) {
	t.Helper()
	text, ok := parse.Write(e)
	if parse.Good(e) || ok || text != "" {
		t.Fatalf("%s is good: %s, %v", what, short(text), ok)
	}
	wantNoLines(t, what, e)
}

// wantNoLines stops the test if a clause is told that holds a term that isn't good.
func wantNoLines(t *testing.T, what string, e api.Expr) {
	t.Helper()
	for i, x := range []api.Clause{
		clause(e),
		clause(a("p"), api.Goal{Kind: call, A: e}),
		clause(a("p"), api.Goal{Kind: call, A: a("q")}, api.Goal{Kind: eq, A: e, B: a("a")}),
		clause(a("p"), api.Goal{Kind: eq, A: a("a"), B: e}),
		clause(a("p"), api.Goal{Kind: dif, A: e, B: a("a")}),
		clause(a("p"), api.Goal{Kind: dif, A: a("a"), B: e}),
	} {
		if text, ok := parse.Line(x); ok || text != "" {
			t.Fatalf("%s is told in the clause %d: %s, %v", what, i, short(text), ok)
		}
	}
}

// P7.2: the chapter's examples.
func TestExamplesWrite(t *testing.T) {
	wantText(t, c(".", a("a"), c(".", v("X"), a("[]"))), "[a,X]")
	wantText(t, c(".", a("a"), v("X")), "[a|X]")
	wantText(t, c(".", a("a")), "'.'(a)")
	wantText(t, c("[]", a("a")), "'[]'(a)")
}

// P7.2: texts of each kind of term, and of lists.
func TestTexts(t *testing.T) {
	e := a("[]")
	for text, x := range map[string]api.Expr{
		"X": v("X"), "_": v("_"), "_1": v("_1"), strings.Repeat("X", 32): v(strings.Repeat("X", 32)),
		"0": n(0), "-1": n(-1), "10": n(10), "1125899906842624": n(great), "-1125899906842624": n(-great),
		"a": a("a"), "'A'": a("A"), "'_'": a("_"), "'1'": a("1"), "'-1'": a("-1"), "'.'": a("."), "[]": e, "'[]a'": a("[]a"), "'['": a("["), "where": a("where"), "co": a("co"), "dif": a("dif"), `'\''`: a("'"), `'\\'`: a(`\`), "'!~'": a("!~"), "'%'": a("%"), strings.Repeat("a", 32): a(strings.Repeat("a", 32)), "'" + strings.Repeat(`\'`, 32) + "'": a(strings.Repeat("'", 32)),
		"f(a)": c("f", a("a")), "f(X,1)": c("f", v("X"), n(1)), "'F'(a)": c("F", a("a")), "f(1,2,3,4,5,6,7,8)": c("f", n(1), n(2), n(3), n(4), n(5), n(6), n(7), n(8)), "f(g(a),h(X,b))": c("f", c("g", a("a")), c("h", v("X"), a("b"))),
		"'.'(a,b,c)": c(".", a("a"), a("b"), a("c")), "'.'([])": c(".", e), "'[]'([],[])": c("[]", e, e), "where(co,dif(a,b))": c("where", a("co"), c("dif", a("a"), a("b"))),
		"[a]": list(a("a")), "[a,b,c]": list(a("a"), a("b"), a("c")), "[[]]": list(e), "[[],[]]": list(e, e), "[[a],b]": list(list(a("a")), a("b")), "[[a|b]|c]": upTo(a("c"), upTo(a("b"), a("a"))),
		"[a,b|X]": upTo(v("X"), a("a"), a("b")), "[a|1]": upTo(n(1), a("a")), "[a|b]": upTo(a("b"), a("a")), "[a|f(b)]": upTo(c("f", a("b")), a("a")), "[a|'[]'(b)]": upTo(c("[]", a("b")), a("a")), "[a|'.']": upTo(a("."), a("a")), "[a|'.'(b)]": upTo(c(".", a("b")), a("a")), "[a|'.'(b,c,d)]": upTo(c(".", a("b"), a("c"), a("d")), a("a")), "[f([a]),[X|Y]]": list(c("f", list(a("a"))), upTo(v("Y"), v("X"))), "f([a,b],[])": c("f", list(a("a"), a("b")), e),
	} {
		wantText(t, x, text)
	}
}

// P7.2: what isn't good: each field of each kind, alone and within a compound.
func TestNotGood(t *testing.T) {
	long := strings.Repeat("X", 33)
	f := []api.Expr{a("a")}
	bad := map[string]api.Expr{"zero": {}, "zero with Args": {Args: f}, "zero with a Name": {Name: "a"}}
	for _, kind := range []int{-1, 5, 6, 8, math.MaxInt, math.MinInt, 1 << 32, 1<<32 + 1, 1<<32 + 2, 257} {
		bad["a kind that is none, a name"] = api.Expr{Kind: kind, Name: "a"}
		bad["a kind that is none, a variable"] = api.Expr{Kind: kind, Name: "X"}
		bad["a kind that is none, a number"] = api.Expr{Kind: kind, Num: 1}
		bad["a kind that is none, bare"] = api.Expr{Kind: kind}
		bad["a kind that is none, arguments"] = api.Expr{Kind: kind, Name: "f", Args: f}
		wantAllBad(t, bad)
	}
	for _, name := range []string{"", "x", "1", "X ", "X-", "X\n", "é", "'X'", "[]", long, strings.Repeat("X", 1000)} {
		bad["a variable's name "+name] = v(name)
	}
	for _, name := range []string{"", " ", "a b", "a\n", "\x00", "\x1f", "\x20", "\x7f", "\x80", "é", "\xff", "a\x7f", strings.ToLower(long), strings.Repeat(".", 33)} {
		bad["an atom's name "+name] = a(name)
		bad["a compound's name "+name] = c(name, f...)
	}
	for _, num := range []int{1, -1, great, math.MaxInt, math.MinInt} {
		bad["a variable's number"] = api.Expr{Kind: kVar, Name: "X", Num: num}
		bad["an atom's number"] = api.Expr{Kind: kAtom, Name: "a", Num: num}
		bad["a compound's number"] = api.Expr{Kind: kComp, Name: "f", Num: num, Args: f}
		wantAllBad(t, bad)
	}
	for _, num := range []int{great + 1, -great - 1, great + 2, 1 << 51, -1 << 51, math.MaxInt, math.MinInt, math.MinInt + 1} {
		bad["a number past the bounds"] = n(num)
		wantAllBad(t, bad)
	}
	bad["a variable's arguments"] = api.Expr{Kind: kVar, Name: "X", Args: f}
	bad["an atom's arguments"] = api.Expr{Kind: kAtom, Name: "a", Args: f}
	bad["an integer's arguments"] = api.Expr{Kind: kInt, Num: 1, Args: f}
	bad["an integer's name a"] = api.Expr{Kind: kInt, Num: 1, Name: "a"}
	bad["an integer's name 1"] = api.Expr{Kind: kInt, Num: 1, Name: "1"}
	bad["a compound without arguments"] = c("f")
	bad["a compound with an empty list of arguments"] = api.Expr{Kind: kComp, Name: "f", Args: []api.Expr{}}
	bad["a pair without arguments"] = c(".")
	for _, count := range []int{9, 10, 16, 1000} {
		bad["a compound with too many arguments"] = c("f", many(count, a("a"))...)
		wantAllBad(t, bad)
	}
	wantAllBad(t, bad)
}

func wantAllBad(t *testing.T, bad map[string]api.Expr) {
	t.Helper()
	for what, e := range bad {
		wantBad(t, what, e)
		for place := range widest {
			args := many(widest, a("a"))
			args[place] = e
			wantBad(t, what+", in a compound", c("f", args...))
		}
		wantBad(t, what+", as the only argument", c("f", e))
		wantBad(t, what+", in a list", list(a("a"), e, a("b")))
		wantBad(t, what+", at a list's end", upTo(e, a("a")))
		wantBad(t, what+", deep within", within(100, "f", list(e)))
	}
}

// P7.2: what is good at the edges: lists that are empty and not nil, names and numbers at their bounds.
func TestGoodEdges(t *testing.T) {
	for _, e := range []api.Expr{
		{Kind: kVar, Name: "X", Args: []api.Expr{}},
		{Kind: kAtom, Name: "a", Args: []api.Expr{}},
		{Kind: kInt, Num: 3, Args: []api.Expr{}},
		{Kind: kAtom, Name: "a", Args: make([]api.Expr, 0, 5)},
	} {
		wantText(t, e, text(e))
		wantText(t, c("f", e, e), text(c("f", e, e)))
	}
	for b := 0x21; b <= 0x7e; b++ {
		name := string(rune(b))
		wantText(t, a(name), text(a(name)))
		wantText(t, c("a"+name, a(name+"b")), text(c("a"+name, a(name+"b"))))
		wantText(t, a(strings.Repeat(name, 32)), text(a(strings.Repeat(name, 32))))
	}
	for count := 1; count <= widest; count++ {
		wantText(t, c("f", many(count, n(-7))...), text(c("f", many(count, n(-7))...)))
		wantText(t, c(".", many(count, n(-7))...), text(c(".", many(count, n(-7))...)))
	}
}

// P7.2: terms whose parts stand in as many compounds as may be, and in one more.
func TestGoodNest(t *testing.T) {
	for _, inner := range []api.Expr{a("a"), v("X"), n(1), a("[]")} {
		wantText(t, within(deepest, "f", inner), nested(deepest, "f(", text(inner), ")"))
		wantText(t, c("f", a("b"), within(deepest-1, "f", inner)), "f(b,"+nested(deepest-1, "f(", text(inner), ")")+")")
		wantBad(t, "too deep", within(deepest+1, "f", inner))
		wantBad(t, "far too deep", within(3*deepest, "f", inner))
		wantBad(t, "too deep behind another", c("f", a("b"), within(deepest, "f", inner)))
		wantBad(t, "too deep ahead of another", c("f", within(deepest, "f", inner), a("b")))
		wantText(t, list(many(deepest, inner)...), "["+strings.Repeat(text(inner)+",", deepest-1)+text(inner)+"]")
		wantText(t, upTo(v("T"), many(deepest, inner)...), "["+strings.Repeat(text(inner)+",", deepest-1)+text(inner)+"|T]")
		wantBad(t, "a list too long", list(many(deepest+1, inner)...))
		wantBad(t, "a list too long, with an end", upTo(v("T"), many(deepest+1, inner)...))
		wantBad(t, "a compound at the end of a long list", list(append(many(deepest-1, inner), c("f", inner))...))
		wantText(t, list(append(many(deepest-2, inner), c("f", inner))...), "["+strings.Repeat(text(inner)+",", deepest-2)+"f("+text(inner)+")]")
	}
	wantBad(t, "deep as may be in the stack", within(1<<16, "f", a("a")))
}

// P7.2 (P1): terms that hold themselves aren't good, wherever they do.
func TestHoldsItself(t *testing.T) {
	for count := 1; count <= widest; count++ {
		for place := range count {
			for _, name := range []string{"f", ".", "dif", "[]"} {
				e := c(name, many(count, a("a"))...)
				e.Args[place] = e
				wantBad(t, "a term that holds itself", e)
				wantBad(t, "a term that holds one that holds itself", c("g", a("b"), e))
			}
		}
	}
	e := c("f", many(widest, a("a"))...)
	for i := range e.Args {
		e.Args[i] = e
	}
	wantBad(t, "a term that holds itself everywhere", e)
	one, two := c("f", a("a"), a("a")), c(".", a("a"), a("a"))
	one.Args[1], two.Args[1] = two, one
	wantBad(t, "two terms that hold each other", one)
}

// wantLine stops the test unless a clause has this text, which means it again.
func wantLine(t *testing.T, x api.Clause, text string) {
	t.Helper()
	if got, ok := parse.Line(x); !ok || got != text {
		t.Fatalf("Line(%s) = %s, %v, want %s", short(tell(api.Program{Clauses: []api.Clause{x}})), short(got), ok, short(text))
	}
	wantClauses(t, text, x)
}

// P7.2: the texts of clauses.
func TestLines(t *testing.T) {
	p := a("p")
	goal := func(kind int, sides ...api.Expr) api.Goal {
		return api.Goal{Kind: kind, A: sides[0], B: append(sides, api.Expr{})[1]}
	}
	wantLine(t, clause(p), "p.")
	wantLine(t, api.Clause{Head: p, Body: []api.Goal{}}, "p.")
	wantLine(t, clause(c("p", v("X"), list(n(1)))), "p(X,[1]).")
	wantLine(t, clause(p, goal(call, a("q"))), "p :- q.")
	wantLine(t, clause(p, goal(call, a("q")), goal(call, c("r", v("X")))), "p :- q, r(X).")
	wantLine(t, clause(p, goal(eq, v("X"), a("a"))), "p :- X = a.")
	wantLine(t, clause(p, goal(dif, v("X"), a("a"))), "p :- dif(X,a).")
	wantLine(t, clause(c("p", v("H")), goal(call, c("p", v("T"))), goal(dif, v("H"), a("a")), goal(eq, v("H"), v("T"))), "p(H) :- p(T), dif(H,a), H = T.")
	wantLine(t, clause(p, goal(eq, n(-1), list(a("a")))), "p :- -1 = [a].")
	wantLine(t, clause(p, goal(eq, a("[]"), upTo(v("T"), v("H")))), "p :- [] = [H|T].")
	wantLine(t, clause(p, goal(eq, c("dif", v("X"), v("Y")), c("dif", v("X"), v("Y")))), "p :- dif(X,Y) = dif(X,Y).")
	wantLine(t, clause(p, goal(dif, c("dif", v("X"), v("Y")), n(1))), "p :- dif(dif(X,Y),1).")
	wantLine(t, clause(p, goal(dif, list(), list(n(1)))), "p :- dif([],[1]).")
	wantLine(t, clause(p, goal(call, a("dif")), goal(call, c("dif", n(1))), goal(call, c("dif", n(1), n(2), n(3)))), "p :- dif, dif(1), dif(1,2,3).")
	wantLine(t, clause(c("dif", v("X"), v("Y"))), "dif(X,Y).")
	wantLine(t, clause(c("dif", v("X"), v("Y")), goal(call, p)), "dif(X,Y) :- p.")
	wantLine(t, clause(a("dif")), "dif.")
	wantLine(t, clause(a(".")), "'.'.")
	wantLine(t, clause(c(".", p), goal(call, c(".", p)), goal(call, a(".")), goal(call, c(".", p, p, p))), "'.'(p) :- '.'(p), '.', '.'(p,p,p).")
	wantLine(t, clause(c("[]", p), goal(call, c("[]", p, p))), "'[]'(p) :- '[]'(p,p).")
	wantLine(t, clause(a("co")), "co.")
	wantLine(t, clause(a("co"), goal(call, a("co"))), "co :- co.")
	wantLine(t, clause(c("co", a("co")), goal(call, c("co", a("co")))), "co(co) :- co(co).")
	wantLine(t, clause(a("where"), goal(call, a("where"))), "where :- where.")
	wantLine(t, clause(a("P-q")), "'P-q'.")
}

// P7.2: clauses that have no text.
func TestNoLines(t *testing.T) {
	p := a("p")
	refuse := func(what string, x api.Clause) {
		t.Helper()
		if text, ok := parse.Line(x); ok || text != "" {
			t.Fatalf("%s: %s, %v", what, short(text), ok)
		}
	}
	refuse("the zero clause", api.Clause{})
	for what, e := range map[string]api.Expr{"a variable": v("X"), "an integer": n(1), "the empty list": a("[]"), "a list": list(p), "a pair": c(".", p, v("X")), "nothing": {}} {
		refuse(what+" as the head", clause(e))
		refuse(what+" as the head of a body", clause(e, api.Goal{Kind: call, A: p}))
		refuse(what+" as a call", clause(p, api.Goal{Kind: call, A: e}))
		refuse(what+" as the last call", clause(p, api.Goal{Kind: call, A: p}, api.Goal{Kind: eq, A: p, B: p}, api.Goal{Kind: call, A: e}))
		refuse(what+" as the first call", clause(p, api.Goal{Kind: call, A: e}, api.Goal{Kind: call, A: p}))
	}
	refuse("a call of dif with two arguments", clause(p, api.Goal{Kind: call, A: c("dif", v("X"), v("Y"))}))
	for _, kind := range []int{0, -1, 4, 5, 1 << 32, 1<<32 + 1, 257, math.MaxInt, math.MinInt} {
		for _, b := range []api.Expr{{}, p} {
			refuse("a goal of no kind", clause(p, api.Goal{Kind: kind, A: p, B: b}))
			refuse("a goal of no kind behind others", clause(p, api.Goal{Kind: call, A: p}, api.Goal{Kind: kind, A: p, B: b}))
		}
	}
	for what, b := range map[string]api.Expr{"an atom": p, "a variable": v("X"), "a Kind": {Kind: 1}, "a Kind that is none": {Kind: -1}, "a Name": {Name: "a"}, "a Num": {Num: 1}, "a Num below 0": {Num: -1}, "an argument": {Args: []api.Expr{{}}}, "arguments": {Args: many(2, p)}} {
		refuse("a call with "+what+" beside it", clause(p, api.Goal{Kind: call, A: p, B: b}))
		refuse("a last call with "+what+" beside it", clause(p, api.Goal{Kind: call, A: p}, api.Goal{Kind: call, A: p, B: b}))
	}
	wantLine(t, clause(p, api.Goal{Kind: call, A: p, B: api.Expr{Args: []api.Expr{}}}), "p :- p.")
	for _, kind := range []int{eq, dif} {
		refuse("nothing on the left", clause(p, api.Goal{Kind: kind, B: p}))
		refuse("nothing on the right", clause(p, api.Goal{Kind: kind, A: p}))
		refuse("nothing on both sides", clause(p, api.Goal{Kind: kind}))
	}
}

// P7.2, P7.3: heads and goals as deep as may be, and a compound deeper.
func TestDeepLines(t *testing.T) {
	e, s := within(deepest, "f", a("a")), nested(deepest, "f(", "a", ")")
	over := within(deepest+1, "f", a("a"))
	wantLine(t, clause(e, api.Goal{Kind: call, A: e}, api.Goal{Kind: eq, A: e, B: e}), s+" :- "+s+", "+s+" = "+s+".")
	wantLine(t, clause(a("p"), api.Goal{Kind: dif, A: e, B: a("b")}), "p :- dif("+s+",b).")
	wantLine(t, clause(a("p"), api.Goal{Kind: dif, A: e, B: e}, api.Goal{Kind: dif, A: a("b"), B: e}), "p :- dif("+s+","+s+"), dif(b,"+s+").")
	l := list(many(deepest, v("X"))...)
	wantLine(t, clause(a("p"), api.Goal{Kind: dif, A: l, B: l}), "p :- dif("+text(l)+","+text(l)+").")
	wantNoLines(t, "a term that is too deep", over)
}

// P7.2, P7.3: scattered good terms have the text that the chapter says, and it means them again.
func TestManyTexts(t *testing.T) {
	for seed := range 12000 {
		d := dice(seed)
		e := d.expr(1 + d.below(6))
		wantText(t, e, text(e))
	}
}

// P7.2, P7.3: scattered clauses, too.
func TestManyLines(t *testing.T) {
	for seed := range 8000 {
		d := dice(seed)
		x := clause(d.called(3), d.goals(d.below(5), 3)...)
		s, ok := line(x)
		if !ok {
			t.Fatal("the oracle refuses", x)
		}
		wantLine(t, x, s)
	}
}

// damage is a term in which one part was changed, at a scattered place.
func (d *dice) damage(e api.Expr) api.Expr {
	if len(e.Args) > 0 && d.below(3) > 0 {
		e.Args = slices.Clone(e.Args)
		i := d.below(len(e.Args))
		e.Args[i] = d.damage(e.Args[i])
		return e
	}
	switch d.below(8) {
	case 0:
		e.Kind = d.below(7) - 1
	case 1:
		e.Name = d.one("", "X", "x", "X ", "a b", "é", "\x7f", "[]", ".", "dif", strings.Repeat("X", 33), strings.Repeat("x", 32))
	case 2:
		e.Num = []int{0, 1, -1, great, great + 1, -great - 1, math.MaxInt, math.MinInt}[d.below(8)]
	case 3:
		e.Args = nil
	case 4:
		e.Args = many(1+d.below(9), a("a"))
	case 5:
		e.Args = append(slices.Clip(e.Args), api.Expr{})
	case 6:
		return api.Expr{}
	}
	return e
}

// P7.2: scattered terms with a part that was changed are good or not as the chapter says.
func TestDamagedTerms(t *testing.T) {
	counts := map[bool]int{}
	for seed := range 30000 {
		d := dice(seed)
		e := d.damage(d.expr(1 + d.below(4)))
		if counts[fine(e)]++; fine(e) {
			wantText(t, e, text(e))
		} else {
			wantBad(t, short(telling(e)), e)
		}
	}
	if counts[true] < 3000 || counts[false] < 3000 {
		t.Error(counts)
	}
}

// P7.2: scattered clauses with a part that was changed have a text or none as the chapter says.
func TestDamagedLines(t *testing.T) {
	counts := map[bool]int{}
	for seed := range 30000 {
		d := dice(seed)
		x := clause(d.called(2), d.goals(1+d.below(3), 2)...)
		g := &x.Body[d.below(len(x.Body))]
		switch d.below(5) {
		case 0:
			x.Head = d.damage(x.Head)
		case 1:
			g.A = d.damage(g.A)
		case 2:
			g.B = d.damage(g.B)
		case 3:
			g.Kind = d.below(6) - 1
		case 4:
			g.A = d.expr(2)
		}
		text, ok := line(x)
		counts[ok]++
		if got, told := parse.Line(x); told != ok || got != text {
			t.Fatalf("Line(%s) = %q, %v, want %q, %v", tell(api.Program{Clauses: []api.Clause{x}}), got, told, text, ok)
		}
	}
	if counts[true] < 3000 || counts[false] < 3000 {
		t.Error(counts)
	}
}

// roomy is a term whose lists have spare room with something in it.
func roomy(e api.Expr) api.Expr {
	args := make([]api.Expr, len(e.Args), len(e.Args)+2)
	for i, x := range e.Args {
		args[i] = roomy(x)
	}
	spare := args[:cap(args)]
	spare[len(args)], spare[len(args)+1] = n(77), v("Spare")
	e.Args = args
	return e
}

// whole is all that a term says, and what stands in its spare room.
func whole(e api.Expr) string {
	out := telling(e)
	for i, x := range e.Args[:cap(e.Args)] {
		if i < len(e.Args) {
			out += whole(x)
		} else {
			out += telling(x)
		}
	}
	return out
}

// P7.4 (R6): nothing that is handed in is changed, spare room included, or kept.
func TestHandedIn(t *testing.T) {
	for seed := range 1500 {
		d := dice(seed)
		e := roomy(d.expr(4))
		x := clause(roomy(d.called(3)), d.goals(d.below(3), 2)...)
		x.Body = append(x.Body, api.Goal{Kind: dif, A: e, B: e}, api.Goal{Kind: eq, A: e, B: roomy(d.expr(2))}, api.Goal{Kind: call, A: roomy(d.called(2))})[:len(x.Body)+2]
		spare := x.Body[:len(x.Body)+1][len(x.Body)]
		before, ahead := whole(e), tell(api.Program{Clauses: []api.Clause{x}})+whole(x.Head)
		text, ok := parse.Write(e)
		line, told := parse.Line(x)
		if !ok || !told || !parse.Good(e) || whole(e) != before || tell(api.Program{Clauses: []api.Clause{x}})+whole(x.Head) != ahead || tell([]api.Goal{x.Body[:len(x.Body)+1][len(x.Body)]}) != tell([]api.Goal{spare}) {
			t.Fatalf("changed: %s", short(before))
		}
		kept, keptLine := strings.Clone(text), strings.Clone(line)
		if len(e.Args) > 0 {
			e.Args[0] = n(5)
		}
		e.Args[:cap(e.Args)][cap(e.Args)-1] = n(6)
		if text != kept || line != keptLine {
			t.Fatalf("%q and %q have changed", text, line)
		}
	}
}

// P7.4 (R6): texts are new memory: they don't lie in what was handed in.
func TestTextsAreTheirOwn(t *testing.T) {
	for _, name := range []string{"Variable", "_"} {
		name = strings.Clone(name)
		if text, ok := parse.Write(v(name)); !ok || text != name || shares(name, text) {
			t.Errorf("%q lies in what was handed in", text)
		}
	}
	name := strings.Clone("atom")
	if text, ok := parse.Write(a(name)); !ok || text != name || shares(name, text) {
		t.Errorf("%q lies in what was handed in", text)
	}
}
