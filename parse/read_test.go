package parse_test

import (
	"errors"
	"slices"
	"strconv"
	"strings"
	"testing"

	"tendril/api"
	"tendril/lex"
)

// short is a text as it is told when a test fails.
func short(s string) string {
	if len(s) > 300 {
		return strconv.Quote(s[:300]) + ".. of " + strconv.Itoa(len(s)) + " bytes"
	}
	return strconv.Quote(s)
}

// isFault tells whether an error is this fault itself, with no cause, and nothing but that.
func isFault(err error, code, at int) bool {
	f, ok := err.(*api.Fault)
	return ok && f != nil && *f == api.Fault{Code: api.Errno(code), At: at}
}

// wantAnswer stops the test unless a source means this, and is no fault.
func wantAnswer(t *testing.T, f face, source string, answer any) {
	t.Helper()
	got, err := f.read(source)
	if err != nil || tell(got) != tell(answer) {
		t.Fatalf("%s %s: %s, %v, want %s", f.word, short(source), short(tell(got)), err, short(tell(answer)))
	}
}

// wantFault stops the test unless a source is refused by this fault, and by nothing else.
func wantFault(t *testing.T, f face, source string, code, at int) {
	t.Helper()
	got, err := f.read(source)
	if !isFault(err, code, at) || tell(got) != tell(f.none) {
		t.Fatalf("%s %s: %s, %v, want the code %d at %d", f.word, short(source), short(tell(got)), err, code, at)
	}
}

// Short forms of the two, for each face.
func wantTerms(t *testing.T, source string, roots ...api.Expr) {
	t.Helper()
	wantAnswer(t, termsFace, source, api.Terms{Roots: roots})
}

func wantClauses(t *testing.T, source string, list ...api.Clause) {
	t.Helper()
	wantAnswer(t, progFace, source, api.Program{Clauses: list})
}

func wantDecls(t *testing.T, source string, list ...api.Decl) {
	t.Helper()
	wantAnswer(t, progFace, source, api.Program{Decls: list})
}

func wantGoals(t *testing.T, source string, list ...api.Goal) {
	t.Helper()
	wantAnswer(t, queryFace, source, list)
	wantClauses(t, "h:-"+source, clause(a("h"), list...))
}

// P7.1: the chapter's examples.
func TestExamplesRead(t *testing.T) {
	wantAnswer(t, termsFace, "X, f(Y) where X = [0|X], Y = a", api.Terms{
		Roots: []api.Expr{v("X"), c("f", v("Y"))},
		Eqs:   []api.Eq{{Name: "X", Right: c(".", n(0), v("X"))}, {Name: "Y", Right: a("a")}},
	})
	wantTerms(t, "")
	wantAnswer(t, termsFace, "where where X = where", api.Terms{Roots: []api.Expr{a("where")}, Eqs: []api.Eq{{Name: "X", Right: a("where")}}})
	wantAnswer(t, progFace, "co p/1. p([H|T]) :- p(T), dif(H, a), H = T. q.", api.Program{
		Decls: []api.Decl{{Name: "p", Arity: 1}},
		Clauses: []api.Clause{
			clause(c("p", c(".", v("H"), v("T"))), api.Goal{Kind: call, A: c("p", v("T"))}, api.Goal{Kind: dif, A: v("H"), B: a("a")}, api.Goal{Kind: eq, A: v("H"), B: v("T")}),
			clause(a("q")),
		},
	})
	wantClauses(t, "co. co(a).", clause(a("co")), clause(c("co", a("a"))))
	wantGoals(t, "X = a.", api.Goal{Kind: eq, A: v("X"), B: a("a")})
	wantFault(t, queryFace, "p", errEnd, 1)
	wantFault(t, queryFace, "X.", errSyntax, 1)
	wantFault(t, queryFace, "[a].", errSyntax, 3)
	wantFault(t, queryFace, "", errEnd, 0)
	wantFault(t, termsFace, "f(a b)", errSyntax, 4)
	wantFault(t, termsFace, "f(", errEnd, 2)
	wantFault(t, termsFace, "f()", errSyntax, 2)
	wantFault(t, termsFace, "[a|b,c]", errSyntax, 4)
	wantFault(t, termsFace, "a where b = c", errSyntax, 8)
	wantFault(t, termsFace, "f(1,2,3,4,5,6,7,8,9)", errArity, 18)
	wantFault(t, progFace, "co p/9.", errArity, 5)
	wantLexFault(t, "a 'b", 64, 2)
}

// wantLexFault stops the test unless each face refuses a source by ErrSource, with this fault of the scanner as its cause.
func wantLexFault(t *testing.T, source string, code, at int) {
	t.Helper()
	_, cause := lex.Scan(source)
	if !isFault(cause, code, at) {
		t.Fatalf("Scan(%s): %v, want the code %d at %d", short(source), cause, code, at)
	}
	for _, f := range faces {
		got, err := f.read(source)
		fault, ok := err.(*api.Fault)
		if !ok || fault == nil || fault.Code != errSource || fault.At != at || fault.Name != "" || !isFault(fault.Cause, code, at) || tell(got) != tell(f.none) {
			t.Fatalf("%s %s: %s, %v, want the code %d at %d", f.word, short(source), short(tell(got)), err, code, at)
		}
		if !errors.Is(err, api.ErrSource) || !errors.Is(err, api.Errno(code)) || errors.Is(err, api.ErrSyntax) {
			t.Fatalf("%s %s: %v", f.word, short(source), err)
		}
	}
}

// P7.1: sources that have no tokens.
func TestNoTokens(t *testing.T) {
	for _, s := range []string{"", " ", "\t\r\n", "%", "% p.", "%\n", " % nothing", "%a.\n%b.\n ", strings.Repeat(" ", longest), strings.Repeat("%\n", longest/2)} {
		wantTerms(t, s)
		wantClauses(t, s)
		wantFault(t, queryFace, s, errEnd, len(s))
	}
}

// P7.1: terms of each kind.
func TestTermsOfEachKind(t *testing.T) {
	wantTerms(t, "X", v("X"))
	wantTerms(t, "_", v("_"))
	wantTerms(t, "_, _", v("_"), v("_"))
	wantTerms(t, "0", n(0))
	wantTerms(t, "-7,7", n(-7), n(7))
	wantTerms(t, "1125899906842624,-1125899906842624", n(great), n(-great))
	wantTerms(t, "a", a("a"))
	wantTerms(t, "'a'", a("a"))
	wantTerms(t, "'A','1','-1','[]','.','a\\'\\\\'", a("A"), a("1"), a("-1"), a("[]"), a("."), a(`a'\`))
	wantTerms(t, "f(X)", c("f", v("X")))
	wantTerms(t, "f (X)", c("f", v("X")))
	wantTerms(t, "f%(\n(X)", c("f", v("X")))
	wantTerms(t, "'F'(X)", c("F", v("X")))
	wantTerms(t, "f(a,1,X,g(b),[])", c("f", a("a"), n(1), v("X"), c("g", a("b")), a("[]")))
	wantTerms(t, "f(f(f(a),b),c)", c("f", c("f", c("f", a("a")), a("b")), a("c")))
	wantTerms(t, "f(g(a),h(b))", c("f", c("g", a("a")), c("h", a("b"))))
	wantTerms(t, "'[]'(a),'.'(a),'.'(a,b),'.'(a,b,c)", c("[]", a("a")), c(".", a("a")), c(".", a("a"), a("b")), c(".", a("a"), a("b"), a("c")))
	wantTerms(t, "'('(')')", c("(", a(")")))
	wantTerms(t, "','(',','|',']','=')", c(",", a(","), a("|"), a("]"), a("=")))
	for name := range strings.FieldsSeq("where co dif p1_Q") {
		wantTerms(t, name, a(name))
		wantTerms(t, name+"("+name+","+name+")", c(name, a(name), a(name)))
	}
	// Marks that are quoted are names.
	for mark := range strings.FieldsSeq("( ) [ ] , | = . / :-") {
		wantTerms(t, "'"+mark+"'", a(mark))
		wantTerms(t, "f('"+mark+"')", c("f", a(mark)))
		wantFault(t, termsFace, "a '"+mark+"'", errSyntax, 2)
		wantFault(t, termsFace, "f(a '"+mark+"' b)", errSyntax, 4)
		wantFault(t, termsFace, "[a '"+mark+"' b]", errSyntax, 3)
		wantFault(t, queryFace, "a '"+mark+"'", errSyntax, 2)
		wantFault(t, queryFace, "X '"+mark+"' a.", errSyntax, 2)
		wantFault(t, progFace, "a '"+mark+"' b.", errSyntax, 2)
		wantFault(t, progFace, "co a '"+mark+"' 1.", errSyntax, 5)
	}
}

// P7.1: lists with and without |, the empty list, lists in lists.
func TestLists(t *testing.T) {
	e := a("[]")
	wantTerms(t, "[]", e)
	wantTerms(t, "[ ]", e)
	wantTerms(t, "[a]", c(".", a("a"), e))
	wantTerms(t, "[a,b]", c(".", a("a"), c(".", a("b"), e)))
	wantTerms(t, "[a,b,c]", c(".", a("a"), c(".", a("b"), c(".", a("c"), e))))
	wantTerms(t, "[a|b]", c(".", a("a"), a("b")))
	wantTerms(t, "[a,b|X]", c(".", a("a"), c(".", a("b"), v("X"))))
	wantTerms(t, "[a|[]]", c(".", a("a"), e))
	wantTerms(t, "[a|[b]]", c(".", a("a"), c(".", a("b"), e)))
	wantTerms(t, "[a|[b|[c]]]", list(a("a"), a("b"), a("c")))
	wantTerms(t, "[[]]", c(".", e, e))
	wantTerms(t, "[[],[]]", c(".", e, c(".", e, e)))
	wantTerms(t, "[[a],[b|c]|[d]]", list(list(a("a")), upTo(a("c"), a("b")), a("d")))
	wantTerms(t, "[[[1]]]", list(list(list(n(1)))))
	wantTerms(t, "[f(X),-1|g(Y)]", upTo(c("g", v("Y")), c("f", v("X")), n(-1)))
	wantTerms(t, "f([a],[])", c("f", list(a("a")), e))
	wantTerms(t, "[1,2,3,4,5,6,7,8,9,10]", list(n(1), n(2), n(3), n(4), n(5), n(6), n(7), n(8), n(9), n(10)))
	for s, at := range map[string]int{"[,]": 1, "[|a]": 1, "[a,]": 3, "[a,|b]": 3, "[a|]": 3, "[a|b|c]": 4, "[a|b,c]": 4, "[a b]": 3, "[a)": 2, "[)": 1, "]": 0, "|": 0, "a|b": 1, "[a]]": 3, "[](a)": 2, "[a](b)": 3, "[.]": 1, "[=]": 1, "[a=b]": 2, "[a:-b]": 2, "[a|b)": 4, "[[a|b],c|d,e]": 10, "f(a|b)": 3, "f([a|b,c])": 6, "f(a]": 3} {
		wantFault(t, termsFace, s, errSyntax, at)
	}
	for _, s := range []string{"[", "[a", "[a,", "[a|", "[a|b", "[[", "[[]", "[a,[b", "[a,[b]", "[f(a)"} {
		wantFault(t, termsFace, s, errEnd, len(s))
		wantFault(t, termsFace, s+" %]", errEnd, len(s)+3)
	}
}

// P7.1: the word where stands behind a term; elsewhere it is a name.
func TestWhere(t *testing.T) {
	x := []api.Eq{{Name: "X", Right: a("where")}}
	w := a("where")
	wantTerms(t, "where", w)
	wantTerms(t, "where,where", w, w)
	wantTerms(t, "where(where),[where|where]", c("where", w), upTo(w, w))
	for _, s := range []string{"where where X = where", "where where X=where%", "'where' where X = where", "where 'where' X = 'where'"} {
		wantAnswer(t, termsFace, s, api.Terms{Roots: []api.Expr{w}, Eqs: x})
	}
	wantAnswer(t, termsFace, "where,where where X=where", api.Terms{Roots: []api.Expr{w, w}, Eqs: x})
	wantAnswer(t, termsFace, "[]where X=where,X=where", api.Terms{Roots: []api.Expr{a("[]")}, Eqs: append(x, x...)})
	wantAnswer(t, termsFace, "1 where _=1,Y=Y", api.Terms{Roots: []api.Expr{n(1)}, Eqs: []api.Eq{{Name: "_", Right: n(1)}, {Name: "Y", Right: v("Y")}}})
	wantAnswer(t, termsFace, "a where X=where(where)", api.Terms{Roots: []api.Expr{a("a")}, Eqs: []api.Eq{{Name: "X", Right: c("where", w)}}})
	for s, at := range map[string]int{"where(": -1, "where where": -1, "a where": -1, "a where X": -1, "a where X =": -1, "a where X = b,": -1, "a, where where X": -1, "a where where": 8, "a where where X = b": 8, "a where, X = b": 7, "a where X b": 10, "a where X = b where": 14, "a where X = b where Y = c": 14, "a where X = b where where": 14, "a where X = b Y = c": 14, "a where X = b = c": 14, "a where X = b.": 13, "a where x = b": 8, "a where 1 = b": 8, "a where [] = b": 8, "a where f(X) = b": 8, "a where X, Y": 9, "a where X(b)": 9, "a where X = b, c": 15, "a where X = b, c = d": 15, "a where (": 8, "a where(X)": 7, "f(a where X = b)": 4, "[a where X = b]": 3, ", where": 0, "a, where X = b": 9, "a where X :- b": 10, "a where X =, b": 11, "a wher X = b": 2, "a X = b": 2, "a b": 2} {
		if at < 0 {
			wantFault(t, termsFace, s, errEnd, len(s))
		} else {
			wantFault(t, termsFace, s, errSyntax, at)
		}
	}
	wantClauses(t, "where.where(where):-where,where=where.", clause(w), clause(c("where", w), api.Goal{Kind: call, A: w}, api.Goal{Kind: eq, A: w, B: w}))
	wantFault(t, progFace, "a where X = b.", errSyntax, 2)
	wantFault(t, queryFace, "a where X = b.", errSyntax, 2)
	wantFault(t, queryFace, "a. where X = b.", errSyntax, 3)
}

// P7.1: the word co stands where a name is behind it; elsewhere it is a name.
func TestCo(t *testing.T) {
	wantDecls(t, "co p/1.", api.Decl{Name: "p", Arity: 1})
	wantDecls(t, "co p/0.", api.Decl{Name: "p"})
	wantDecls(t, "'co' p/2.", api.Decl{Name: "p", Arity: 2})
	wantDecls(t, "co co/1.co co/1.", api.Decl{Name: "co", Arity: 1}, api.Decl{Name: "co", Arity: 1})
	wantDecls(t, "co'P'/1 . co where/3. co dif/2. co '.'/2. co'[]'/0.", api.Decl{Name: "P", Arity: 1}, api.Decl{Name: "where", Arity: 3}, api.Decl{Name: "dif", Arity: 2}, api.Decl{Name: ".", Arity: 2}, api.Decl{Name: "[]", Arity: 0})
	wantClauses(t, "co.", clause(a("co")))
	wantClauses(t, "co:-co.", clause(a("co"), api.Goal{Kind: call, A: a("co")}))
	wantClauses(t, "co(co):-co(co),co=co.", clause(c("co", a("co")), api.Goal{Kind: call, A: c("co", a("co"))}, api.Goal{Kind: eq, A: a("co"), B: a("co")}))
	wantAnswer(t, progFace, "a.co b/1.co.co c/2.d:-co.", api.Program{
		Decls:   []api.Decl{{Name: "b", Arity: 1}, {Name: "c", Arity: 2}},
		Clauses: []api.Clause{clause(a("a")), clause(a("co")), clause(a("d"), api.Goal{Kind: call, A: a("co")})},
	})
	wantTerms(t, "co,co(co)", a("co"), c("co", a("co")))
	wantGoals(t, "co,co=co.", api.Goal{Kind: call, A: a("co")}, api.Goal{Kind: eq, A: a("co"), B: a("co")})
	for s, at := range map[string]int{"co": -1, "co p": -1, "co p/": -1, "co p/1": -1, "co(": -1, "co :-": -1, "co co": -1, "co p.": 4, "co co.": 5, "co p(": 4, "co p(X).": 4, "co p:-q.": 4, "co p=q.": 4, "co p,q.": 4, "co p q.": 5, "co p/q.": 5, "co p/X.": 5, "co p/.": 5, "co p//1.": 5, "co p/(1).": 5, "co p/1,q/1.": 6, "co p/1 q.": 7, "co p/1/1.": 6, "co p/1:-q.": 6, "co p/1(": 6, "co X/1.": 3, "co 1/1.": 3, "co [].": 3, "co/1.": 2, "co=a.": 2, "co,a.": 2, "co|": 2, "co(a)/1.": 5, "cop/1.": 3, "co p/1.co.co q": -1, "co p/1.co X": 10} {
		if at < 0 {
			wantFault(t, progFace, s, errEnd, len(s))
		} else {
			wantFault(t, progFace, s, errSyntax, at)
		}
	}
	wantFault(t, termsFace, "co p/1", errSyntax, 3)
	wantFault(t, queryFace, "co p/1.", errSyntax, 3)
	wantFault(t, queryFace, "p, co q/1.", errSyntax, 6)
}

// P7.1: a declaration's number.
func TestDeclaredArities(t *testing.T) {
	for arity := range widest + 1 {
		wantDecls(t, "co p/"+strconv.Itoa(arity)+".", api.Decl{Name: "p", Arity: arity})
	}
	for _, arity := range []int{-great, -9, -8, -2, -1, 9, 10, 16, 100, great} {
		s := "co p/" + strconv.Itoa(arity)
		for _, behind := range []string{"", ".", " .", " x", ". X", "/", " -1"} {
			wantFault(t, progFace, s+behind, errArity, 5)
			wantFault(t, progFace, "a. co  'p' / "+s[5:]+behind, errArity, 13)
		}
	}
}

// P7.1: compounds of the greatest number of arguments, and of more.
func TestArity(t *testing.T) {
	rows := func(count int, arg string) string { return strings.Repeat(arg+",", count-1) + arg }
	for count := 1; count <= widest; count++ {
		e := c("f", many(count, v("X"))...)
		s := "f(" + rows(count, "X") + ")"
		wantTerms(t, s, e)
		wantTerms(t, "g("+s+","+s+")", c("g", e, e))
		wantTerms(t, "["+s+"|"+s+"]", upTo(e, e))
		wantClauses(t, s+".", clause(e))
		wantGoals(t, s+".", api.Goal{Kind: call, A: e})
		wantGoals(t, s+"="+s+".", api.Goal{Kind: eq, A: e, B: e})
	}
	wantTerms(t, "["+rows(9, "X")+"|Y]", upTo(v("Y"), many(9, v("X"))...))
	for _, count := range []int{9, 10, 17, 5000} {
		for _, arg := range []string{"X", "1", "a", "[]", "[b]", "f(X)", "'q'", "-1"} {
			s := "f(" + rows(count, arg)
			at := 2 + 8*(len(arg)+1)
			for _, behind := range []string{"", ")", ").", " x", "|", ",", "]"} {
				wantFault(t, termsFace, s+behind, errArity, at)
				wantFault(t, progFace, s+behind, errArity, at)
				wantFault(t, queryFace, s+behind, errArity, at)
			}
			wantFault(t, termsFace, "[a, "+s+")]", errArity, at+4)
			wantFault(t, termsFace, "g(a, "+s+"))", errArity, at+5)
			wantFault(t, termsFace, "a where X = "+s+")", errArity, at+12)
			wantFault(t, progFace, "p :- q, "+s+").", errArity, at+8)
			wantFault(t, queryFace, "q, X = "+s+").", errArity, at+7)
			wantFault(t, queryFace, "dif(X, "+s+")).", errArity, at+7)
			wantFault(t, queryFace, "dif"+s[1:]+").", errArity, at+2)
		}
	}
}

// P7.1: what cannot stand in the place of the argument number MaxArity + 1 is refused by that.
func TestNoNinthArgument(t *testing.T) {
	const s = "f(1,2,3,4,5,6,7,8,"
	for _, f := range faces {
		wantFault(t, f, s, errEnd, len(s))
		for mark := range strings.FieldsSeq(") ] , | = . / :- (") {
			wantFault(t, f, s+mark, errSyntax, len(s))
			wantFault(t, f, s+mark+"9)", errSyntax, len(s))
		}
	}
}

// P7.1: clauses and their heads.
func TestClauses(t *testing.T) {
	p := api.Goal{Kind: call, A: a("p")}
	wantClauses(t, "p.", clause(a("p")))
	wantClauses(t, "p.p.q.", clause(a("p")), clause(a("p")), clause(a("q")))
	wantClauses(t, "p:-p.", clause(a("p"), p))
	wantClauses(t, "p:-p,p,p.", clause(a("p"), p, p, p))
	wantClauses(t, "p(X,[Y|1]):-p.", clause(c("p", v("X"), upTo(n(1), v("Y"))), p))
	wantClauses(t, "'[]'. '.'(a,b). '.'. dif(X,Y). dif. '[]'(a).", clause(a("[]")), clause(c(".", a("a"), a("b"))), clause(a(".")), clause(c("dif", v("X"), v("Y"))), clause(a("dif")), clause(c("[]", a("a"))))
	wantClauses(t, "p:-'[]','.'(a,b).", clause(a("p"), api.Goal{Kind: call, A: a("[]")}, api.Goal{Kind: call, A: c(".", a("a"), a("b"))}))
	for s, at := range map[string]int{"X.": 0, "1.": 0, "-1.": 0, "[].": 0, "[a].": 0, "(": 0, ".": 0, ":- p.": 0, "X = a.": 0, "[] = a.": 0, "p = q.": 2, "p, q.": 1, "p q.": 2, "p | q.": 2, "p / 1.": 2, "p)": 1, "p(X) = q.": 5, "p(X), q.": 4, "p :- .": 5, "p :- , q.": 5, "p :- q,.": 7, "p :- q r.": 7, "p :- q :- r.": 7, "p :- q. :- r.": 8, "p. . q.": 3, "p. X.": 3, "p :- q | r.": 7, "p :- (q).": 5, "p(X)(Y).": 4, "p() .": 2, "p(X :- q.": 4, "p :- X.": 6, "p :- X, q.": 6, "p :- [].": 7, "p :- 1.": 6, "p :- q, [a], r.": 11} {
		wantFault(t, progFace, s, errSyntax, at)
		wantFault(t, progFace, "r:-s. "+s, errSyntax, at+6)
	}
	for _, s := range []string{"p", "p(", "p(X", "p(X)", "p :-", "p :- q", "p :- q,", "p :- q, r", "p :- X", "p :- X =", "p :- X = a", "p :- [", "p :- [a]", "p :- 1", "p. q", "p. q :- r"} {
		wantFault(t, progFace, s, errEnd, len(s))
		wantFault(t, progFace, s+"%.", errEnd, len(s)+2)
	}
}

// P7.1: goals of each kind.
func TestGoals(t *testing.T) {
	e := a("[]")
	for s, g := range map[string]api.Goal{
		"p":               {Kind: call, A: a("p")},
		"p(X)":            {Kind: call, A: c("p", v("X"))},
		"'P'([])":         {Kind: call, A: c("P", e)},
		"'='(a,b)":        {Kind: call, A: c("=", a("a"), a("b"))},
		"dif":             {Kind: call, A: a("dif")},
		"dif(X)":          {Kind: call, A: c("dif", v("X"))},
		"dif(f(X,Y))":     {Kind: call, A: c("dif", c("f", v("X"), v("Y")))},
		"dif([X,Y])":      {Kind: call, A: c("dif", list(v("X"), v("Y")))},
		"dif(X,Y)":        {Kind: dif, A: v("X"), B: v("Y")},
		"'dif'(1,[])":     {Kind: dif, A: n(1), B: e},
		"dif(f(X,Y),[])":  {Kind: dif, A: c("f", v("X"), v("Y")), B: e},
		"dif([X,Y],[Z])":  {Kind: dif, A: list(v("X"), v("Y")), B: list(v("Z"))},
		"dif(dif(a,b),c)": {Kind: dif, A: c("dif", a("a"), a("b")), B: a("c")},
		"dif(X,Y,Z)":      {Kind: call, A: c("dif", v("X"), v("Y"), v("Z"))},
		"dif=dif":         {Kind: eq, A: a("dif"), B: a("dif")},
		"dif(X)=Y":        {Kind: eq, A: c("dif", v("X")), B: v("Y")},
		"dif(X,Y)=Z":      {Kind: eq, A: c("dif", v("X"), v("Y")), B: v("Z")},
		"Z=dif(X,Y)":      {Kind: eq, A: v("Z"), B: c("dif", v("X"), v("Y"))},
		"X=Y":             {Kind: eq, A: v("X"), B: v("Y")},
		"1=a":             {Kind: eq, A: n(1), B: a("a")},
		"a=1":             {Kind: eq, A: a("a"), B: n(1)},
		"f(X)=f(Y)":       {Kind: eq, A: c("f", v("X")), B: c("f", v("Y"))},
		"[]=[a]":          {Kind: eq, A: e, B: list(a("a"))},
		"[X|Y]=p":         {Kind: eq, A: upTo(v("Y"), v("X")), B: a("p")},
	} {
		wantGoals(t, s+".", g)
		wantGoals(t, " "+s+" . %", g)
		wantGoals(t, s+","+s+" , "+s+".", g, g, g)
		wantGoals(t, "dif(A,B),"+s+",C=D.", api.Goal{Kind: dif, A: v("A"), B: v("B")}, g, api.Goal{Kind: eq, A: v("C"), B: v("D")})
		wantFault(t, queryFace, s, errEnd, len(s))
		wantFault(t, queryFace, s+",", errEnd, len(s)+1)
		wantFault(t, queryFace, s+". "+s+".", errSyntax, len(s)+2)
		wantFault(t, queryFace, s+"..", errSyntax, len(s)+1)
		wantFault(t, queryFace, s+" b.", errSyntax, len(s)+1)
		wantFault(t, queryFace, s+" :- b.", errSyntax, len(s)+1)
		wantFault(t, queryFace, s+",.", errSyntax, len(s)+1)
		wantFault(t, queryFace, s+"|b.", errSyntax, len(s))
	}
	for s, at := range map[string]int{"X.": 1, "X, p.": 1, "1.": 1, "[].": 2, "[a], p.": 3, "[a|b].": 5, "X Y.": 2, "X(a).": 1, "= a.": 0, "X = .": 4, "X = a = b.": 6, "X = a b.": 6, "p, X.": 4, "p, 1, q.": 4, "p(X) q.": 5, "p = , q.": 4, "dif(X Y).": 6, "dif().": 4, "dif(X,).": 6, "(p).": 0, ". p.": 0, ":- p.": 0, "p/1.": 1} {
		wantFault(t, queryFace, s, errSyntax, at)
	}
	for _, s := range []string{"X", "1", "[]", "[a]", "X =", "X = a", "p(", "p(a", "p(a)", "p,", "p, X", "dif(", "dif(X", "dif(X,", "dif(X,Y"} {
		wantFault(t, queryFace, s, errEnd, len(s))
	}
}

// P7.1: the scanner's faults come first, each with its place and as the cause.
func TestSourceFaults(t *testing.T) {
	for _, x := range []struct {
		source   string
		code, at int
	}{
		{strings.Repeat(" ", longest+1), 60, longest},
		{"p. " + strings.Repeat("a b", longest), 60, longest},
		{"p :- q, ; r.", 61, 8},
		{"a : b", 61, 2},
		{"'a b'", 61, 2},
		{"p('').", 62, 2},
		{"p(" + strings.Repeat("x", 33) + ").", 62, 2},
		{strings.Repeat("X", 33), 62, 0},
		{"p(007).", 63, 2},
		{"co p/1125899906842625.", 63, 5},
		{"p(12a).", 63, 2},
		{"a 'b", 64, 2},
		{"p('a\\n').", 65, 4},
		// What the parser would refuse stands ahead of them, and is not told.
		{"f(a b) 'c", 64, 7},
		{") ;", 61, 2},
		{"p. X. 00", 63, 6},
		{"f(1,2,3,4,5,6,7,8,9) ''", 62, 21},
		{"co p/9. '\\", 65, 9},
		{strings.Repeat("f(", deepest+2) + "!", 61, 2*deepest + 4},
		{strings.Repeat("[", deepest+2) + "!", 61, deepest + 2},
	} {
		wantLexFault(t, x.source, x.code, x.at)
	}
}

// P7.1: of two faults in one source the first is told.
func TestTwoFaults(t *testing.T) {
	wantFault(t, termsFace, "f(a b c", errSyntax, 4)
	wantFault(t, termsFace, "f(a b) c)", errSyntax, 4)
	wantFault(t, termsFace, "a) b) c)", errSyntax, 1)
	wantFault(t, termsFace, "f(1,2,3,4,5,6,7,8,9) b", errArity, 18)
	wantFault(t, termsFace, "f(1,2,3,4,5,6,7,8,9 b", errArity, 18)
	wantFault(t, termsFace, "f(1,2,3,4,5,6,7,8,9", errArity, 18)
	wantFault(t, termsFace, "b f(1,2,3,4,5,6,7,8,9)", errSyntax, 2)
	wantFault(t, termsFace, "f(1,2,3,4,5,6,7 8,9,10)", errSyntax, 16)
	wantFault(t, termsFace, "f(1,2,3,4,5,6,7,8 9)", errSyntax, 18)
	wantFault(t, termsFace, "f(1,2,3,4,5,6,7,8,g(1,2,3,4,5,6,7,8,9))", errArity, 18)
	wantFault(t, termsFace, "f(g(1,2,3,4,5,6,7,8,9),2,3,4,5,6,7,8,9)", errArity, 20)
	wantFault(t, progFace, "co p/9. X.", errArity, 5)
	wantFault(t, progFace, "X. co p/9.", errSyntax, 0)
	wantFault(t, progFace, "co p/9 co q/10.", errArity, 5)
	wantFault(t, progFace, "p :- X. co p/-1.", errSyntax, 6)
	wantFault(t, queryFace, "X. Y.", errSyntax, 1)
	wantFault(t, queryFace, "p(. q", errSyntax, 2)
	deep := strings.Repeat("f(", deepest+1) + "a"
	wide := "f(1,2,3,4,5,6,7,8,9)"
	wantFault(t, termsFace, deep+" "+wide, errNest, 2*deepest+2)
	wantFault(t, termsFace, wide+" "+deep, errArity, 18)
	wantFault(t, termsFace, "b b "+deep, errSyntax, 2)
	wantFault(t, termsFace, deep+" b b", errNest, 2*deepest+2)
	wantFault(t, progFace, "co p/9. "+deep, errArity, 5)
	wantFault(t, progFace, deep+" co p/9.", errNest, 2*deepest+2)
	// A compound in which the ninth argument stands as deep as may be: no argument ahead of it was past that.
	most := strings.Repeat("f(", deepest-1) + "g(1,2,3,4,5,6,7,8,9)"
	wantFault(t, termsFace, most, errArity, len(most)-2)
}

// nested is a text within so many compounds or lists.
func nested(depth int, open, inner, shut string) string {
	return strings.Repeat(open, depth) + inner + strings.Repeat(shut, depth)
}

// P7.1: terms that stand in as many compounds as may be, and in one more.
func TestNestByCompounds(t *testing.T) {
	for inner, e := range map[string]api.Expr{"a": a("a"), "X": v("X"), "-1": n(-1), "[]": a("[]"), "'q'": a("q")} {
		wantTerms(t, nested(deepest-1, "f(", inner, ")"), within(deepest-1, "f", e))
		wantTerms(t, nested(deepest, "f(", inner, ")"), within(deepest, "f", e))
		for _, behind := range []string{"", ")", " b", strings.Repeat(")", deepest+1)} {
			wantFault(t, termsFace, strings.Repeat("f(", deepest+1)+inner+behind, errNest, 2*deepest+2)
			wantFault(t, termsFace, strings.Repeat("f(", deepest+2)+inner+behind, errNest, 2*deepest+2)
		}
	}
	for inner, at := range map[string]int{"[b]": 1, "[[]]": 1, "f(b)": 2, "[b": 1, "g([]": 2} {
		wantFault(t, termsFace, nested(deepest, "f(", inner, ")"), errNest, 2*deepest+at)
	}
	wantFault(t, termsFace, strings.Repeat("f(", longest/2), errNest, 2*deepest+2)
	// What was deep ahead makes no difference behind it.
	s, e := nested(deepest-1, "f(", "a", ")"), within(deepest-1, "f", a("a"))
	wantTerms(t, "g("+s+","+s+")", c("g", e, e))
	wantTerms(t, "g("+s+","+s+"),g("+s+")", c("g", e, e), c("g", e))
	wantTerms(t, "["+s+"|"+s+"]", upTo(e, e))
	wantFault(t, termsFace, "g("+s+",f("+s+"))", errNest, len(s)+3+2+2*(deepest-1))
	wantTerms(t, nested(deepest, "f(b,", "a", ")"), func() api.Expr {
		e := a("a")
		for range deepest {
			e = c("f", a("b"), e)
		}
		return e
	}())
	wantFault(t, termsFace, nested(deepest+1, "f(b,", "a", ")"), errNest, 4*deepest+2)
}

// P7.1: the same by lists within lists.
func TestNestByLists(t *testing.T) {
	within := func(depth int, e api.Expr) api.Expr {
		for range depth {
			e = list(e)
		}
		return e
	}
	wantTerms(t, nested(deepest, "[", "a", "]"), within(deepest, a("a")))
	wantTerms(t, nested(deepest+1, "[", "", "]"), within(deepest, a("[]")))
	wantFault(t, termsFace, nested(deepest+1, "[", "a", "]"), errNest, deepest+1)
	wantFault(t, termsFace, nested(deepest+2, "[", "", "]"), errNest, deepest+1)
	wantFault(t, termsFace, strings.Repeat("[", longest), errNest, deepest+1)
	wantFault(t, termsFace, strings.Repeat("[a|", longest/3), errNest, 3*deepest+1)
	wantTerms(t, nested(deepest, "[a|", "b", "]"), upTo(a("b"), many(deepest, a("a"))...))
	wantTerms(t, nested(deepest, "[a|", "[]", "]"), list(many(deepest, a("a"))...))
	wantFault(t, termsFace, nested(deepest, "[a|", "[b]", "]"), errNest, 3*deepest+1)
	wantFault(t, termsFace, nested(deepest+1, "[a|", "b", "]"), errNest, 3*deepest+1)
}

// P7.1: the same by lists of many elements: each stands in one more compound than the one ahead, and the last one's number is that of what ends the list.
func TestNestByElements(t *testing.T) {
	of := func(count int, last string) string { return "[" + strings.Repeat("a,", count-1) + last + "]" }
	e := func(count int, last api.Expr) []api.Expr { return append(many(count-1, a("a")), last) }
	wantTerms(t, of(deepest-1, "b"), list(e(deepest-1, a("b"))...))
	wantTerms(t, of(deepest, "b"), list(e(deepest, a("b"))...))
	wantTerms(t, of(deepest, "[]"), list(e(deepest, a("[]"))...))
	wantTerms(t, of(deepest, "X|Y"), upTo(v("Y"), e(deepest, v("X"))...))
	wantTerms(t, of(deepest, "X|[]"), list(e(deepest, v("X"))...))
	wantTerms(t, of(deepest-1, "[b]"), list(e(deepest-1, list(a("b")))...))
	wantTerms(t, of(deepest-1, "b|[c]"), list(append(e(deepest-1, a("b")), a("c"))...))
	wantTerms(t, of(deepest-1, "b|f(c)"), upTo(c("f", a("c")), e(deepest-1, a("b"))...))
	wantTerms(t, of(deepest-1, "f(b)"), list(e(deepest-1, c("f", a("b")))...))
	last := 2*deepest - 1 // the place of the element number deepest
	for inner, at := range map[string]int{"f(b)": 2, "[b]": 1, "[[]]": 1, "b|f(c)": 4, "b|[c]": 3, "b,c": 2, "b,[]": 2, "b,[c]": 2, "b, c|d": 3, "b,c,d": 2, "b,f(c)": 2} {
		wantFault(t, termsFace, of(deepest, inner), errNest, last+at)
	}
	wantFault(t, termsFace, of(deepest-1, "b|[c,d]"), errNest, last-2+5)
	wantFault(t, termsFace, of(deepest-1, "b|[c|[d]]"), errNest, last-2+6)
	wantFault(t, termsFace, of(deepest-1, "f(g(b))"), errNest, last-2+4)
	wantFault(t, termsFace, "["+strings.Repeat("a,", longest/2-1), errNest, 2*deepest+1)
	wantTerms(t, "f("+of(deepest-1, "b")+")", c("f", list(e(deepest-1, a("b"))...)))
	wantFault(t, termsFace, "f("+of(deepest, "b")+")", errNest, last+2)
	wantTerms(t, "["+of(deepest-1, "b")+","+of(deepest-2, "b")+"]", list(list(e(deepest-1, a("b"))...), list(e(deepest-2, a("b"))...)))
	s := "[" + of(deepest-1, "b") + "," + of(deepest-1, "c") + "]"
	wantFault(t, termsFace, s, errNest, len(s)-3)
}

// P7.1: what cannot stand in a place that is past MaxNest is refused by that.
func TestNothingPastNest(t *testing.T) {
	for _, s := range []string{strings.Repeat("f(", deepest+1), "[" + strings.Repeat("a,", deepest), "[" + strings.Repeat("a,", deepest-1) + "f("} {
		wantFault(t, termsFace, s, errEnd, len(s))
		for mark := range strings.FieldsSeq(") ] , | = . / :- (") {
			wantFault(t, termsFace, s+mark, errSyntax, len(s))
			wantFault(t, termsFace, s+mark+"a", errSyntax, len(s))
		}
	}
	s := strings.Repeat("[", deepest+1)
	wantFault(t, termsFace, s, errEnd, len(s))
	wantFault(t, termsFace, s+")", errSyntax, len(s))
	wantFault(t, termsFace, s+"|", errSyntax, len(s))
	s = "[" + strings.Repeat("a,", deepest-1) + "a|"
	wantFault(t, termsFace, s, errEnd, len(s))
	wantFault(t, termsFace, s+"]", errSyntax, len(s))
}

// P7.1: how deep a term stands is counted anew in each root, equation, head and goal.
func TestNestOfEachTerm(t *testing.T) {
	s, e := nested(deepest, "f(", "a", ")"), within(deepest, "f", a("a"))
	over := "f(" + s + ")"
	at := 2*deepest + 2
	wantTerms(t, s+","+s, e, e)
	wantFault(t, termsFace, s+","+over, errNest, len(s)+1+at)
	wantAnswer(t, termsFace, "b where X = "+s+", Y = "+s, api.Terms{Roots: []api.Expr{a("b")}, Eqs: []api.Eq{{Name: "X", Right: e}, {Name: "Y", Right: e}}})
	wantFault(t, termsFace, "b where X = "+over, errNest, 12+at)
	wantFault(t, termsFace, "b where X = b, Y = "+over, errNest, 19+at)
	call, same := api.Goal{Kind: call, A: e}, api.Goal{Kind: eq, A: e, B: e}
	wantClauses(t, s+":-"+s+","+s+"="+s+","+s+". "+s+".", clause(e, call, same, call), clause(e))
	wantGoals(t, s+","+s+"="+s+","+s+".", call, same, call)
	wantFault(t, progFace, over+".", errNest, at)
	wantFault(t, progFace, "p. "+over+".", errNest, 3+at)
	wantFault(t, progFace, "p:-"+over+".", errNest, 3+at)
	wantFault(t, queryFace, over+".", errNest, at)
	wantFault(t, queryFace, "p, "+over+".", errNest, 3+at)
	wantFault(t, queryFace, "X="+over+".", errNest, 2+at)
	wantFault(t, queryFace, over+"=X.", errNest, at)
	wantFault(t, queryFace, "["+s+"]=X.", errNest, 1+at-2)
}

// P7.1, P7.3: the two sides of a disequality stand in no compound; what is called dif besides is one.
func TestNestOfDif(t *testing.T) {
	s, e := nested(deepest, "f(", "a", ")"), within(deepest, "f", a("a"))
	less, l := nested(deepest-1, "f(", "a", ")"), within(deepest-1, "f", a("a"))
	over := "f(" + s + ")"
	inner := 2 * deepest // the place of the a in s
	ab := api.Goal{Kind: dif, A: a("a"), B: a("b")}
	wantGoals(t, "dif("+s+",b).", api.Goal{Kind: dif, A: e, B: a("b")})
	wantGoals(t, "dif(b,"+s+").", api.Goal{Kind: dif, A: a("b"), B: e})
	wantGoals(t, "dif("+s+","+s+"),dif(a,b),dif("+s+",b).", api.Goal{Kind: dif, A: e, B: e}, ab, api.Goal{Kind: dif, A: e, B: a("b")})
	wantGoals(t, "dif(["+less+"],"+nested(deepest+1, "[", "", "]")+").", api.Goal{Kind: dif, A: list(l), B: func() api.Expr {
		e := a("[]")
		for range deepest {
			e = list(e)
		}
		return e
	}()})
	wantGoals(t, "dif("+less+").", api.Goal{Kind: call, A: c("dif", l)})
	wantGoals(t, "dif("+less+",b,c).", api.Goal{Kind: call, A: c("dif", l, a("b"), a("c"))})
	wantGoals(t, "dif("+less+",b)=X.", api.Goal{Kind: eq, A: c("dif", l, a("b")), B: v("X")})
	wantClauses(t, "dif("+less+",b).", clause(c("dif", l, a("b"))))
	// Marks that are quoted are names there, too.
	for mark := range strings.FieldsSeq("( ) [ ] , | = . / :-") {
		wantGoals(t, "dif("+s+",'"+mark+"').", api.Goal{Kind: dif, A: e, B: a(mark)})
		wantGoals(t, "dif('"+mark+"'(1),"+s+").", api.Goal{Kind: dif, A: c(mark, n(1)), B: e})
		wantFault(t, queryFace, "dif('"+mark+"'(b,"+less+")).", errNest, 9+len(mark)+inner-2)
	}
	for source, at := range map[string]int{
		"dif(" + over + ",b).":          4 + inner + 2,
		"dif(b," + over + ").":          6 + inner + 2,
		"dif(a,b),dif(b," + over + ").": 15 + inner + 2,
		"dif([" + s + "],b).":           5 + inner,
		"dif(" + s + ").":               4 + inner,
		"dif(" + over + ").":            4 + inner,
		"dif(" + s + ",b,c).":           4 + inner,
		"dif(" + over + ",b,c).":        4 + inner,
		"dif(b," + s + ",c).":           6 + inner,
		"dif(b,c," + s + ").":           8 + inner,
		"dif(" + s + ",b)=X.":           4 + inner,
		"dif(b," + s + ")=X.":           6 + inner,
		"X=dif(" + s + ",b).":           6 + inner,
		"g(dif(" + less + ",b)).":       6 + inner - 2,
		"dif(dif(" + s + ",b),c).":      8 + inner,
		"difs(" + s + ",b).":            5 + inner,
	} {
		wantFault(t, queryFace, source, errNest, at)
		wantFault(t, progFace, "p:-"+source, errNest, 3+at)
	}
	wantFault(t, progFace, "dif("+s+",b).", errNest, 4+inner)
	wantFault(t, termsFace, "dif("+s+",b)", errNest, 4+inner)
	wantFault(t, queryFace, "dif("+s+",b), X.", errSyntax, 4+len(s)+6)
}

// laid is tokens with a blank between each two, and the place of the last one.
func laid(tokens []string) (string, int) {
	s := strings.Join(tokens, " ")
	if len(tokens) == 0 {
		return s, 0
	}
	return s, len(s) - len(tokens[len(tokens)-1])
}

// walk goes over all sources of the grammar's beginnings of up to so many tokens, and over each of these with one token that cannot follow. It counts the whole ones, whose meanings are known.
func walk(t *testing.T, f face, alphabet []string, most int, known map[string]any) int {
	count := 0
	x := newChart(f.word)
	var step func(tokens []string)
	step = func(tokens []string) {
		s, _ := laid(tokens)
		if answer, ok := known[s]; x.whole() != ok {
			t.Fatalf("%s %q: the oracles don't agree", f.word, s)
		} else if ok {
			count++
			wantAnswer(t, f, s, answer)
		} else {
			wantFault(t, f, s, errEnd, len(s))
		}
		for _, token := range alphabet {
			more := append(slices.Clip(tokens), token)
			s, at := laid(more)
			strange := x.strange(token)
			switch ok := x.push(token); {
			case !ok:
				behind := " a"[:len(more)%3] // what follows the fault makes no difference
				wantFault(t, f, s+behind, errSyntax, at)
				continue
			case strange:
				wantFault(t, f, s, errArity, at)
			case len(more) <= most:
				step(more)
			}
			x.pop()
		}
	}
	step(nil)
	return count
}

// phrase is tokens and what they mean: terms, goals, or items.
type phrase struct {
	tokens []string
	exprs  []api.Expr
	eqs    []api.Eq
	goals  []api.Goal
	prog   api.Program
}

func (p phrase) then(q phrase) phrase {
	return phrase{
		tokens: slices.Concat(p.tokens, q.tokens),
		exprs:  slices.Concat(p.exprs, q.exprs),
		eqs:    slices.Concat(p.eqs, q.eqs),
		goals:  slices.Concat(p.goals, q.goals),
		prog:   api.Program{Decls: slices.Concat(p.prog.Decls, q.prog.Decls), Clauses: slices.Concat(p.prog.Clauses, q.prog.Clauses)},
	}
}

// phrases makes all phrases of a number of tokens out of names, variables and integers.
type phrases struct {
	names, others []string
	made          map[string][]phrase
}

func newPhrases(alphabet []string) *phrases {
	out := &phrases{made: map[string][]phrase{}}
	for _, t := range alphabet {
		if fits("name", t) {
			out.names = append(out.names, t)
		} else if fits("variable", t) || fits("integer", t) {
			out.others = append(out.others, t)
		}
	}
	return out
}

// of is all phrases of one of the grammar's words that have so many tokens.
func (x *phrases) of(word string, size int) []phrase {
	key := word + strconv.Itoa(size)
	if list, ok := x.made[key]; ok || size <= 0 {
		return list
	}
	list := map[string]func(int) []phrase{"term": x.term, "rows": x.rows, "eqs": x.eqs, "goal": x.goal, "goals": x.goals, "item": x.item, "items": x.items}[word](size)
	x.made[key] = list
	return list
}

func words(tokens ...string) phrase { return phrase{tokens: tokens} }

func meant(s string) api.Expr {
	if num, err := strconv.Atoi(s); err == nil {
		return n(num)
	}
	return v(s)
}

// plain is a name alone or with arguments.
func (x *phrases) plain(size int) []phrase {
	var out []phrase
	for _, name := range x.names {
		if size == 1 {
			out = append(out, phrase{tokens: []string{name}, exprs: []api.Expr{a(name)}})
		}
		for _, r := range x.of("rows", size-3) {
			p := words(name, "(").then(words(r.tokens...)).then(words(")"))
			p.exprs = []api.Expr{c(name, r.exprs...)}
			out = append(out, p)
		}
	}
	return out
}

func (x *phrases) term(size int) []phrase {
	out := x.plain(size)
	if size == 1 {
		for _, s := range x.others {
			out = append(out, phrase{tokens: []string{s}, exprs: []api.Expr{meant(s)}})
		}
	}
	if size == 2 {
		out = append(out, phrase{tokens: []string{"[", "]"}, exprs: []api.Expr{a("[]")}})
	}
	for _, r := range x.of("rows", size-2) {
		p := words("[").then(words(r.tokens...)).then(words("]"))
		p.exprs = []api.Expr{list(r.exprs...)}
		out = append(out, p)
	}
	for first := 1; first < size-3; first++ {
		for _, r := range x.of("rows", first) {
			for _, e := range x.of("term", size-3-first) {
				p := words("[").then(words(r.tokens...)).then(words("|")).then(words(e.tokens...)).then(words("]"))
				p.exprs = []api.Expr{upTo(e.exprs[0], r.exprs...)}
				out = append(out, p)
			}
		}
	}
	return out
}

// row is phrases of a word with a comma between each two.
func (x *phrases) row(many, one string, size int) []phrase {
	out := slices.Clone(x.of(one, size))
	for first := 1; first < size-1; first++ {
		for _, p := range x.of(many, first) {
			for _, q := range x.of(one, size-1-first) {
				out = append(out, p.then(words(",")).then(q))
			}
		}
	}
	return out
}

func (x *phrases) rows(size int) []phrase { return x.row("rows", "term", size) }

func (x *phrases) goals(size int) []phrase { return x.row("goals", "goal", size) }

func (x *phrases) eqs(size int) []phrase {
	var ones []phrase
	for _, name := range x.others {
		if !fits("variable", name) {
			continue
		}
		for _, e := range x.of("term", size-2) {
			p := words(name, "=").then(words(e.tokens...))
			p.eqs = []api.Eq{{Name: name, Right: e.exprs[0]}}
			ones = append(ones, p)
		}
	}
	x.made["eq"+strconv.Itoa(size)] = ones
	return x.row("eqs", "eq", size)
}

func (x *phrases) goal(size int) []phrase {
	var out []phrase
	for _, p := range x.plain(size) {
		e := p.exprs[0]
		g := api.Goal{Kind: call, A: e}
		if e.Name == "dif" && len(e.Args) == 2 {
			g = api.Goal{Kind: dif, A: e.Args[0], B: e.Args[1]}
		}
		out = append(out, phrase{tokens: p.tokens, goals: []api.Goal{g}})
	}
	for first := 1; first < size-1; first++ {
		for _, l := range x.of("term", first) {
			for _, r := range x.of("term", size-1-first) {
				p := words(l.tokens...).then(words("=")).then(words(r.tokens...))
				p.goals = []api.Goal{{Kind: eq, A: l.exprs[0], B: r.exprs[0]}}
				out = append(out, p)
			}
		}
	}
	return out
}

func (x *phrases) item(size int) []phrase {
	var out []phrase
	for _, name := range x.names {
		for _, s := range x.others {
			num, err := strconv.Atoi(s)
			if err == nil && num >= 0 && num <= widest && size == 5 && slices.Contains(x.names, "co") {
				p := words("co", name, "/", s, ".")
				p.prog.Decls = []api.Decl{{Name: name, Arity: num}}
				out = append(out, p)
			}
		}
	}
	for _, h := range x.plain(size - 1) {
		p := words(h.tokens...).then(words("."))
		p.prog.Clauses = []api.Clause{clause(h.exprs[0])}
		out = append(out, p)
	}
	for first := 1; first < size-2; first++ {
		for _, h := range x.plain(first) {
			for _, g := range x.of("goals", size-2-first) {
				p := words(h.tokens...).then(words(":-")).then(words(g.tokens...)).then(words("."))
				p.prog.Clauses = []api.Clause{clause(h.exprs[0], g.goals...)}
				out = append(out, p)
			}
		}
	}
	return out
}

func (x *phrases) items(size int) []phrase {
	out := slices.Clone(x.of("item", size))
	for first := 1; first < size; first++ {
		for _, p := range x.of("items", first) {
			for _, q := range x.of("item", size-first) {
				out = append(out, p.then(q))
			}
		}
	}
	return out
}

// known is all sources of a face of up to so many tokens, with what they mean.
func (x *phrases) known(f face, most int) map[string]any {
	out := map[string]any{}
	put := func(tokens []string, answer any) { out[strings.Join(tokens, " ")] = answer }
	if f.word != "query" {
		put(nil, f.none)
	}
	for size := 1; size <= most; size++ {
		switch f.word {
		case "terms":
			for _, p := range x.of("rows", size) {
				put(p.tokens, api.Terms{Roots: p.exprs})
			}
			for first := 1; first < size-1 && slices.Contains(x.names, "where"); first++ {
				for _, p := range x.of("rows", first) {
					for _, q := range x.of("eqs", size-1-first) {
						both := p.then(words("where")).then(q)
						put(both.tokens, api.Terms{Roots: both.exprs, Eqs: both.eqs})
					}
				}
			}
		case "program":
			for _, p := range x.of("items", size) {
				put(p.tokens, p.prog)
			}
		case "query":
			for _, p := range x.of("goals", size-1) {
				put(append(slices.Clip(p.tokens), "."), p.goals)
			}
		}
	}
	return out
}

// P7.1: all sources of a few tokens, good and bad, against the grammar.
func TestAllShortSources(t *testing.T) {
	for _, x := range []struct {
		tokens string
		most   int
	}{
		{"( ) [ ] , | = . / :- a where co dif X 1 9 -1", 4},
		{"( ) [ ] , | = . / :- a co dif X 1", 5},
		{"( ) [ ] , | = . / :- co where X 2", 7},
		{"( ) [ ] , | = . / :- dif X", 9},
	} {
		alphabet := strings.Fields(x.tokens)
		for _, f := range faces {
			known := newPhrases(alphabet).known(f, x.most)
			if got := walk(t, f, alphabet, x.most, known); got != len(known) || got < 20 {
				t.Errorf("%s: %d of %d sources of %s", f.word, got, len(known), x.tokens)
			}
		}
	}
}
