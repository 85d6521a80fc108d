package session_test

import (
	"slices"
	"strconv"
	"strings"
	"testing"

	"tendril/api"
	"tendril/session"
)

// The limits and the numbers are spelt here, apart from the program.
const (
	mostWords   = 65536
	mostNodes   = 4096
	mostClauses = 256
	mostGoals   = 32
	mostPreds   = 128
	mostDifs    = 256
	mostFuel    = 10000
	mostSource  = 4194304
	great       = 1 << 50

	kVar  = 1
	kAtom = 2
	kInt  = 3
	kComp = 4

	errNil     = 1
	errMax     = 20
	errFull    = 22
	errNames   = 31
	errGraph   = 40
	errNodes   = 41
	errRoots   = 42
	errRoot    = 43
	errLexLong = 60
	errLexByte = 61
	errLexInt  = 63
	errLexOpen = 64
	errSource  = 70
	errSyntax  = 71
	errEnd     = 72
	errNest    = 73
	errArity   = 74
	errExprs   = 80
	errBig     = 85
	errShow    = 90
	errNew     = 110
	errRoom    = 112
	errLarge   = 117
	errDifs    = 141
	errClauses = 160
	errGoals   = 161
	errTie     = 162
	errHead    = 163
	errGoal    = 164
	errDecl    = 165
	errUnknown = 166
	errPreds   = 167
	errStrata  = 170
	errCode    = 180
	errNoQuery = 181
	errFuel    = 182
	errHeap    = 183
	errNoMore  = 184
	errAnswer  = 185
	errLoad    = 190
	errQuery   = 191
	errNext    = 192
)

// Programs of the document's examples.
const (
	sample = "co s/1. s([H|T]) :- s(T). m(X, [X|T]). m(X, [Y|T]) :- dif(X, Y), m(X, T)."
	whole  = "co stream/1. stream([H|T]) :- stream(T). nat(0). nat(s(N)) :- nat(N). member(X, [X|T]). member(X, [Y|T]) :- dif(X, Y), member(X, T)."
)

// fresh is a session without a program.
func fresh(t *testing.T, size int) *session.Session {
	t.Helper()
	s, err := session.New(size)
	if err != nil || s == nil {
		t.Fatal(s, err)
	}
	return s
}

// loaded is a session with a program.
func loaded(t *testing.T, size int, program string) *session.Session {
	t.Helper()
	s := fresh(t, size)
	if err := s.Load(program); err != nil {
		t.Fatal(short(program), err)
	}
	return s
}

// asked is a session with a query.
func asked(t *testing.T, size int, program, query string) *session.Session {
	t.Helper()
	s := loaded(t, size, program)
	ask(t, s, query)
	return s
}

func ask(t *testing.T, s *session.Session, query string) {
	t.Helper()
	if err := s.Query(query); err != nil {
		t.Fatal(short(query), err)
	}
}

// wantNext stops the test unless the next answer has this text; the empty text is the answers' end.
func wantNext(t *testing.T, s *session.Session, budget int, want string) {
	t.Helper()
	got, ok, err := s.Next(budget)
	if got != want || ok != (want != "") || err != nil {
		t.Fatalf("Next(%d): %s, %v, %v, want %s", budget, short(got), ok, err, short(want))
	}
}

// wantAll stops the test unless a query has these answers, and then no further one.
func wantAll(t *testing.T, s *session.Session, query string, want ...string) {
	t.Helper()
	ask(t, s, query)
	for _, text := range append(want, "", "") {
		wantNext(t, s, mostFuel, text)
	}
}

func wantPreds(t *testing.T, s *session.Session, want ...string) {
	t.Helper()
	if got := s.Preds(); !slices.Equal(got, want) {
		t.Fatalf("Preds: %q, want %q", got, want)
	}
}

// short is a text as it is told when a test fails.
func short(s string) string {
	if len(s) > 600 {
		return s[:600] + ".. of " + strconv.Itoa(len(s)) + " bytes"
	}
	return s
}

// P19.1: the chapter's examples 1 and 2.
func TestExamples(t *testing.T) {
	s := loaded(t, 1000, sample)
	wantPreds(t, s, "co s/1", "m/2")
	ask(t, s, "X = [0|X], s(X).")
	wantNext(t, s, 9, "X = E1 where E1 = [0|E1]")
	ask(t, s, "m(X, [a,Y]), dif(Y, b).")
	wantNext(t, s, 9, "X = a, Y = V1, dif(V1, b)")
	wantNext(t, s, 9, "X = V1, Y = V1, dif(V1, a), dif(V1, b)")
	wantNext(t, s, 9, "")
	ask(t, s, "s(a).")
	wantNext(t, s, 9, "")
	ask(t, s, "m(a, [a]).")
	wantNext(t, s, 9, "yes")
}

// P19.1: the ten examples of the whole.
func TestExamplesOfTheWhole(t *testing.T) {
	s := loaded(t, 10000, whole)
	wantPreds(t, s, "co stream/1", "nat/1", "member/2")
	ask(t, s, "X = [0|X], stream(X).")
	for range 20 {
		wantNext(t, s, 100, "X = E1 where E1 = [0|E1]")
	}
	ask(t, s, "X = s(X), nat(X).")
	for i := range 20 {
		if text, ok, err := s.Next(100); text != "" || ok || !isFault(err, next(errFuel, -1)) || s.Used() != 100*(i+1) {
			t.Fatal(text, ok, err, s.Used())
		}
	}
	ask(t, s, "nat(X).")
	wantNext(t, s, 5, "X = 0")
	for i := 1; i < 50; i++ {
		wantNext(t, s, 5, "X = E1 where E1 = "+strings.Repeat("s(", i)+"0"+strings.Repeat(")", i))
	}
	wantAll(t, s, "member(X, [a,b,a]).", "X = a", "X = b")
	wantAll(t, s, "member(X, [Y]).", "X = V1, Y = V1")
	wantAll(t, s, "dif(f(X), f(a)).", "X = V1, dif(E1, E2) where E1 = f(V1), E2 = f(a)")
	wantAll(t, s, "dif(X, Y), X = a, Y = a.")
	wantAll(t, s, "X = f(Y, X), Y = g(X).", "X = E1, Y = E2 where E1 = f(E2,E1), E2 = g(E1)")
	if err := fresh(t, 10000).Load("co p/1. co stream/1. stream([H|T]) :- stream(T). p(X) :- stream(X), q(X). q(X) :- p(X)."); !isFault(err, refused(errLoad, fault(errStrata, 0, "p/1", nil))) {
		t.Error(err)
	}
	wantAll(t, s, "X = f(X, a, X), Y = f(Y, a, f(Y, a, Y)), X = Y.", "X = E1, Y = E1 where E1 = f(E1,a,E1)")
}

// P19.1: texts of answers.
func TestTexts(t *testing.T) {
	s := loaded(t, 1000, "p(X, Y, Z). q. r(where). r('.'(a)). r([where|where]). r('a,b'(',')). loop(X) :- X = f(X).")
	for query, want := range map[string]string{
		// Neither variables nor disequalities, whatever names _ stands for.
		"q.": "yes", "p(a, f(b), 7).": "yes", "a = a.": "yes", "dif(a, b).": "yes", "p(_, f(_), _).": "yes", "f(_, g(_)) = f(g(_), _).": "yes",
		// Variables alone.
		"X = a.": "X = a", "X = X.": "X = V1", "X = Y.": "X = V1, Y = V1", "p(X, Y, X).": "X = V1, Y = V2", "p(B, A, C).": "B = V1, A = V2, C = V3", "X = -7, Y = [].": "X = -7, Y = []",
		"X = [].": "X = []", "X = '[]', Y = 'Ab', Z = '\\''.": "X = [], Y = 'Ab', Z = '\\''", "p(1125899906842624, X, -1125899906842624).": "X = V1", "X = 1125899906842624, Y = -1125899906842624.": "X = 1125899906842624, Y = -1125899906842624",
		"_X = Y1, __ = _.": "_X = V1, Y1 = V1, __ = V2",
		// Names that are those of show.
		"E1 = f(V1), V2 = E2.": "E1 = E1, V1 = V1, V2 = V2, E2 = V2 where E1 = f(V1)", "V2 = f(V1, E1), E1 = g(V1).": "V2 = E1, V1 = V1, E1 = E2 where E1 = f(V1,E2), E2 = g(V1)",
		// Shared parts, and circles.
		"X = f(a).": "X = E1 where E1 = f(a)", "X = f(a), Y = f(a).": "X = E1, Y = E1 where E1 = f(a)", "X = f(g(a), g(a)).": "X = E1 where E1 = f(E2,E2), E2 = g(a)", "X = f(g(a), Y), Y = g(b).": "X = E1, Y = E2 where E1 = f(g(a),E2), E2 = g(b)",
		"X = [1,2|Y].": "X = E1, Y = V1 where E1 = [1,2|V1]", "X = [1,2|X].": "X = E1 where E1 = [1,2|E1]", "X = [1|Y], Y = [2|X].": "X = E1, Y = E2 where E1 = [1|E2], E2 = [2|E1]", "X = f(X), Y = f(f(Y)).": "X = E1, Y = E1 where E1 = f(E1)",
		"p(X, f(X), Y), loop(Y).": "X = V1, Y = E1 where E1 = f(E1)",
		// Disequalities alone.
		"dif(_, a).": "dif(V1, a)", "dif(_, _).": "dif(V1, V2)", "dif(a, _), dif(_, b).": "dif(a, V1), dif(V2, b)", "dif(f(_), f(a)).": "dif(E1, E2) where E1 = f(V1), E2 = f(a)", "dif([_], [7]).": "dif(E1, E2) where E1 = [V1], E2 = [7]", "dif(f(_, g(b)), f(g(a), _)).": "dif(E1, E2) where E1 = f(V1,g(b)), E2 = f(g(a),V2)",
		// Both; the variables come first.
		"dif(X, a).": "X = V1, dif(V1, a)", "dif(a, X).": "X = V1, dif(a, V1)", "dif(X, Y), X = 0.": "X = 0, Y = V1, dif(0, V1)", "X = f(Y), dif(X, f(Z)).": "X = E1, Y = V1, Z = V2, dif(E1, E2) where E1 = f(V1), E2 = f(V2)",
		"dif(X, Y), dif(Y, X).": "X = V1, Y = V2, dif(V1, V2), dif(V2, V1)", "X = f(X, Y), dif(Y, X).": "X = E1, Y = V1, dif(V1, E1) where E1 = f(E1,V1)", "X = [_|X], dif(X, [a|X]).": "X = E1, dif(E1, E2) where E1 = [V1|E1], E2 = [a|E1]",
		"dif(X, _), dif(_, f(X)).": "X = V1, dif(V1, V2), dif(V3, E1) where E1 = f(V1)",
		// What is told stands where the words are put in.
		"X = where.": "X = where", "X = where, Y = where.": "X = where, Y = where", "X = where, Y = where(where).": "X = where, Y = E1 where E1 = where(where)", "Y = where(X), X = where.": "Y = E1, X = where where E1 = where(where)", "dif(_, where), dif(f(_), where(_)).": "dif(V1, where)",
		"dif(X, where), X = where(_).": "X = E1 where E1 = where(V1)", "X = g(where), dif(_, where).": "X = E1, dif(V1, where) where E1 = g(where)", "X = dif, Y = yes, Z = dif(a).": "X = dif, Y = yes, Z = E1 where E1 = dif(a)", "X = dif(a, b), dif(Y, X).": "X = E1, Y = V1, dif(V1, E1) where E1 = dif(a,b)",
		"X = ',', Y = ',='(','), Z = 'E1='.": "X = ',', Y = E1, Z = 'E1=' where E1 = ',='(',')", "X = '.', Y = '.'('[]').": "X = '.', Y = E1 where E1 = '.'([])", "X = 'V1', Y = '_', Z = '(where)'.": "X = 'V1', Y = '_', Z = '(where)'",
	} {
		wantAll(t, s, query, want)
	}
	wantAll(t, s, "r(X).", "X = where", "X = E1 where E1 = '.'(a)", "X = E1 where E1 = [where|where]", "X = E1 where E1 = 'a,b'(',')")
}

// P19.1: the proof makes no difference to the text: what other goals a query has that tell nothing more of its variables, and by what it was proved.
func TestProofsAreNotTold(t *testing.T) {
	program := "eq(X, X). is(X) :- eq(X, f(Y, g(Y))), eq(g(h(Y)), Z), more(X, X, Z, Y). more(X, Y, Z, W). isnt(X) :- dif(X, f(a, Z)), eq(f(b), W)."
	s := loaded(t, 1000, program)
	want := "X = E1 where E1 = f(V1,g(V1))"
	wantAll(t, s, "X = f(Y, g(Y)), eq(Y, _).", "X = E1, Y = V1 where E1 = f(V1,g(V1))")
	for _, query := range []string{"X = f(_, _), is(X).", "is(X).", "eq(X, X), is(X), is(f(_, _)).", "eq([f(_, _), a|_], _), is(X).", "is(X), more(X, X, g(X), [X]), more(X, f(_), f(_), g(f(_)))."} {
		wantAll(t, s, query, want)
	}
	for _, query := range []string{"dif(X, f(a, _)).", "isnt(X).", "eq(f(a, _), f(a, _)), isnt(X)."} {
		ask(t, s, query)
		wantNext(t, s, 100, "X = V1, dif(V1, E1) where E1 = f(a,V2)")
	}
}

// P19.1: Preds: the order of the numbers; both kinds; names as they are written.
func TestPreds(t *testing.T) {
	for program, want := range map[string][]string{
		"": nil, "% nothing\n": nil,
		"p.":                                {"p/0"},
		"co p/0.":                           {"co p/0"},
		"p(X, Y). co q/1. co p/1. p. q(X).": {"co q/1", "co p/1", "p/2", "p/0"},
		"b. a. c :- a. b. a(1). co a/2.":    {"co a/2", "b/0", "a/0", "c/0", "a/1"},
		"'Ab'(X). '[]'(a). '.'(a, b, c). co '\\''/8. '\\\\'. co. co co/1. where. '7'(1). ','.": {"co '\\''/8", "co co/1", "'Ab'/1", "'[]'/1", "'.'/3", "'\\\\'/0", "co/0", "where/0", "'7'/1", "','/0"},
		"dif. dif(a). dif(a, b, c).": {"dif/0", "dif/1", "dif/3"},
	} {
		s := loaded(t, 100, program)
		wantPreds(t, s, want...)
		wantPreds(t, s, want...)
	}
	var program strings.Builder
	var want []string
	for i := range mostPreds {
		name := "p" + strconv.Itoa(i%7)
		if i%2 == 0 {
			program.WriteString("co " + name + strings.Repeat("x", i/7) + "/" + strconv.Itoa(i%9) + ". ")
			want = append(want, "co "+name+strings.Repeat("x", i/7)+"/"+strconv.Itoa(i%9))
		}
	}
	for i := range mostPreds {
		if name := "q" + strconv.Itoa(i); i%2 == 1 {
			program.WriteString(name + ". ")
			want = append(want, name+"/0")
		}
	}
	wantPreds(t, loaded(t, 100, program.String()), want...)
}

// P19.1: Used and Compact, ahead of and behind all else.
func TestUsedAndCompact(t *testing.T) {
	s := fresh(t, 1000)
	want := func(used, words int) {
		t.Helper()
		if got := s.Used(); got != used {
			t.Fatalf("Used: %d, want %d", got, used)
		}
		if got, err := s.Compact(); got != words || err != nil {
			t.Fatalf("Compact: %d, %v, want %d", got, err, words)
		}
	}
	want(0, 0)
	if err := s.Load(sample); err != nil {
		t.Fatal(err)
	}
	want(0, 0)
	ask(t, s, "X = [0|X], s(X).")
	first, err := s.Compact()
	if first == 0 || err != nil {
		t.Fatal(first, err)
	}
	want(0, first)
	wantNext(t, s, 100, "X = E1 where E1 = [0|E1]")
	want(3, used(t, s))
	wantNext(t, s, 100, "X = E1 where E1 = [0|E1]")
	want(5, used(t, s))
	if err := s.Load("p :- q."); err == nil {
		t.Fatal("loaded")
	}
	want(5, used(t, s))
	ask(t, s, "X = a.")
	want(0, used(t, s))
	wantNext(t, s, 1, "X = a")
	wantNext(t, s, 1, "")
	want(1, used(t, s))
	if err := s.Query("m(X"); err == nil {
		t.Fatal("asked")
	}
	want(0, 0)
	ask(t, s, "X = a.")
	wantNext(t, s, 1, "X = a")
	if err := s.Load(sample); err != nil {
		t.Fatal(err)
	}
	want(0, 0)
}

// used is how many words a session says are wanted; a second compaction keeps them all.
func used(t *testing.T, s *session.Session) int {
	t.Helper()
	n, err := s.Compact()
	if n == 0 || err != nil {
		t.Fatal(n, err)
	}
	return n
}

// P19.1: Answer is the machine's: the answer to which the last Next came.
func TestAnswer(t *testing.T) {
	s := asked(t, 1000, sample, "m(X, [a,Y]), dif(Y, b).")
	wantNext(t, s, 9, "X = a, Y = V1, dif(V1, b)")
	want := api.Answer{
		Graph: api.Graph{
			Nodes: []api.Node{{Kind: kAtom, Name: "a"}, {Kind: kVar}, {Kind: kAtom, Name: "b"}, {Kind: kComp, Name: ".", Args: []int{0, 4}}, {Kind: kComp, Name: ".", Args: []int{1, 5}}, {Kind: kAtom, Name: "[]"}},
			Roots: []int{0, 1, 1, 2, 0, 3, 1, 2},
		},
		Vars: []string{"X", "Y"}, Difs: 1,
		Proofs: []api.Proof{{Kind: 1, Pred: 1, Parent: -1, Place: 0, Rule: 1, Hyp: -1, First: 4, Count: 2}, {Kind: 3, Pred: -1, Parent: -1, Place: 1, Rule: -1, Hyp: -1, First: 6, Count: 2}},
	}
	for range 2 {
		got, err := s.Answer()
		if tellingAnswer(got) != tellingAnswer(want) || err != nil {
			t.Fatal(tellingAnswer(got), err)
		}
		if text, err := s.Show(got); text != "X = a, Y = V1, dif(V1, b)" || err != nil {
			t.Fatal(text, err)
		}
	}
	wantNext(t, s, 9, "X = V1, Y = V1, dif(V1, a), dif(V1, b)")
	got, err := s.Answer()
	if err != nil || len(got.Proofs) != 4 || got.Difs != 2 {
		t.Fatal(tellingAnswer(got), err)
	}
	wantNext(t, s, 9, "")
	if got, err := s.Answer(); !isFault(err, next(errNoMore, -1)) || tellingAnswer(got) != tellingAnswer(api.Answer{}) {
		t.Fatal(got, err)
	}
}
