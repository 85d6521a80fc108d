package session_test

import (
	"errors"
	"math"
	"slices"
	"strconv"
	"strings"
	"testing"

	"tendril/api"
	"tendril/session"
)

// fault is a fault as it must be.
func fault(code, at int, name string, cause *api.Fault) *api.Fault {
	out := &api.Fault{Code: api.Errno(code), At: at, Name: name}
	if cause != nil {
		out.Cause = cause
	}
	return out
}

// refused is a fault of this layer with its cause, at the place of which it is.
func refused(code int, cause *api.Fault) *api.Fault { return fault(code, cause.At, "", cause) }

// next is the fault of Next and Answer with a cause that has none itself.
func next(code, at int) *api.Fault { return refused(errNext, fault(code, at, "", nil)) }

// noProgram is the fault of Query where there is no program.
func noProgram() *api.Fault { return refused(errQuery, fault(errNoQuery, -1, "", nil)) }

// isFault tells whether an error is this fault itself, with these causes.
func isFault(err error, want *api.Fault) bool {
	f, ok := err.(*api.Fault)
	if !ok || f == nil || f.Code != want.Code || f.At != want.At || f.Name != want.Name || !errors.Is(err, want.Code) {
		return false
	}
	if want.Cause == nil {
		return f.Cause == nil
	}
	return isFault(f.Cause, want.Cause.(*api.Fault))
}

// wantNoNext stops the test unless Next is refused, with nothing beside it.
func wantNoNext(t *testing.T, s *session.Session, budget int, want *api.Fault) {
	t.Helper()
	if text, ok, err := s.Next(budget); text != "" || ok || !isFault(err, want) {
		t.Fatalf("Next(%d): %s, %v, %v, want %v", budget, short(text), ok, err, want)
	}
}

// wantNoAnswer stops the test unless Answer is refused, with nothing beside it.
func wantNoAnswer(t *testing.T, s *session.Session, want *api.Fault) {
	t.Helper()
	if a, err := s.Answer(); !isFault(err, want) || tellingAnswer(a) != tellingAnswer(api.Answer{}) {
		t.Fatalf("Answer: %s, %v, want %v", short(tellingAnswer(a)), err, want)
	}
}

// wantNoQuery stops the test unless a session has no query.
func wantNoQuery(t *testing.T, s *session.Session) {
	t.Helper()
	wantNoNext(t, s, 1, next(errNoQuery, -1))
	wantNoNext(t, s, mostFuel, next(errNoQuery, -1))
	wantNoAnswer(t, s, next(errNoQuery, -1))
	if n, err := s.Compact(); n != 0 || err != nil || s.Used() != 0 {
		t.Fatal(n, err, s.Used())
	}
}

// wantNotLoaded stops the test unless a source is refused as a program, and sessions stay as they were: one without a program, one without a query, and one in the midst of answers.
func wantNotLoaded(t *testing.T, source string, cause *api.Fault) {
	t.Helper()
	load := func(s *session.Session) {
		t.Helper()
		if err := s.Load(source); !isFault(err, refused(errLoad, cause)) {
			t.Fatalf("Load(%s): %v, want %v", short(source), err, cause)
		}
	}
	s := fresh(t, 1000)
	load(s)
	wantPreds(t, s)
	if err := s.Query("X = a."); !isFault(err, noProgram()) {
		t.Fatal(err)
	}
	wantNoQuery(t, s)
	s = loaded(t, 1000, sample)
	load(s)
	wantPreds(t, s, "co s/1", "m/2")
	wantNoQuery(t, s)
	ask(t, s, "m(X, [a,b]).")
	load(s)
	wantNoAnswer(t, s, next(errNoMore, -1))
	wantNext(t, s, 9, "X = a")
	load(s)
	if a, err := s.Answer(); err != nil || len(a.Proofs) != 1 || s.Used() != 1 {
		t.Fatal(a, err, s.Used())
	}
	wantNext(t, s, 9, "X = b")
	load(s)
	wantNext(t, s, 9, "")
	wantPreds(t, s, "co s/1", "m/2")
	wantAll(t, s, "m(b, [a,b]).", "yes")
}

// repeated is so many times a text in which the number stands for #.
func repeated(text string, count int) string {
	var out strings.Builder
	for i := range count {
		out.WriteString(strings.ReplaceAll(text, "#", strconv.Itoa(i)))
	}
	return out.String()
}

// P19.1: ErrLoad: what parse.Program refuses.
func TestNoProgram(t *testing.T) {
	wantNotLoaded(t, "p('", fault(errSource, 2, "", fault(errLexOpen, 2, "", nil)))
	wantNotLoaded(t, "p. q 'a b'.", fault(errSource, 7, "", fault(errLexByte, 7, "", nil)))
	wantNotLoaded(t, "p(007).", fault(errSource, 2, "", fault(errLexInt, 2, "", nil)))
	wantNotLoaded(t, strings.Repeat(" ", mostSource)+".", fault(errSource, mostSource, "", fault(errLexLong, mostSource, "", nil)))
	wantNotLoaded(t, "p :- X.", fault(errSyntax, 6, "", nil))
	wantNotLoaded(t, "p. .", fault(errSyntax, 3, "", nil))
	wantNotLoaded(t, "[].", fault(errSyntax, 0, "", nil))
	wantNotLoaded(t, "p :- q", fault(errEnd, 6, "", nil))
	wantNotLoaded(t, "p", fault(errEnd, 1, "", nil))
	wantNotLoaded(t, "co p/9.", fault(errArity, 5, "", nil))
	wantNotLoaded(t, "p(1,2,3,4,5,6,7,8,9).", fault(errArity, 18, "", nil))
	wantNotLoaded(t, strings.Repeat("f(", 4097)+"a"+strings.Repeat(")", 4097)+".", fault(errNest, 2*4097, "", nil))
}

// P19.1: ErrLoad: what code.Compile refuses.
func TestNoCode(t *testing.T) {
	wantNotLoaded(t, "p :- q.", fault(errUnknown, 0, "q/0", nil))
	wantNotLoaded(t, "p. p :- p, p(X).", fault(errUnknown, 1, "p/1", nil))
	wantNotLoaded(t, "p. p :- 'Q'(a, b).", fault(errUnknown, 1, "'Q'/2", nil))
	wantNotLoaded(t, repeated("p. ", mostClauses+1), fault(errClauses, mostClauses+1, "", nil))
	wantNotLoaded(t, "co p/1. co p/1.", fault(errDecl, 1, "", nil))
	wantNotLoaded(t, "co dif/2.", fault(errDecl, 0, "", nil))
	wantNotLoaded(t, "p. dif(X, Y) :- p.", fault(errHead, 1, "", nil))
	wantNotLoaded(t, "p. '[]' :- p.", fault(errHead, 1, "", nil))
	wantNotLoaded(t, "p :- p"+strings.Repeat(", p", mostGoals)+".", fault(errGoals, 0, "", nil))
	wantNotLoaded(t, "p. p :- p, '.'(a, b).", fault(errGoal, 1, "", nil))
	wantNotLoaded(t, "p. q(["+repeated("a#,", 2999)+"b]) :- p.", fault(errTie, 1, "", fault(errBig, 6001, "", nil)))
	wantNotLoaded(t, repeated("co p#/0. ", mostPreds)+"q.", fault(errPreds, mostPreds+1, "", nil))
}

// P19.1: ErrLoad: what strata.Check refuses, and what machine.New does.
func TestNoMeaning(t *testing.T) {
	wantNotLoaded(t, "co p/0. p :- q. q :- p.", fault(errStrata, 0, "p/0", nil))
	wantNotLoaded(t, "co r/0. co 'Q'/1. p(X) :- 'Q'(X), r. 'Q'(X) :- r, p(X).", fault(errStrata, 1, "'Q'/1", nil))
	names := func(first, count int) string {
		return "p([" + strings.TrimSuffix(repeated("a#,", first+count)[len(repeated("a#,", first)):], ",") + "]). "
	}
	wantNotLoaded(t, names(0, 600)+names(600, 423), fault(errCode, -1, "", fault(errNames, -1, "a1022", nil)))
	wantNotLoaded(t, names(0, 600)+names(600, 422)+"q :- p(z).", fault(errCode, -1, "", fault(errNames, -1, "z", nil)))
	s := loaded(t, 5000, names(0, 600)+names(600, 422))
	wantPreds(t, s, "p/1")
	wantAll(t, s, "p([a600|X]), dif(X, a0).", "X = E1 where E1 = "+strings.TrimSuffix(strings.Replace(names(601, 421), "p(", "", 1), "). "))
}

// P19.1: ErrLoad: the reasons in the chapter's order.
func TestLoadsInOrder(t *testing.T) {
	many := "co p/0. p :- q. q :- p. r([" + strings.TrimSuffix(repeated("a#,", 1024), ",") + "])."
	wantNotLoaded(t, many+" p :- unknown. p :- 'A b'", fault(errSource, len(many)+22, "", fault(errLexByte, len(many)+22, "", nil)))
	wantNotLoaded(t, many+" p :- unknown. p :- ", fault(errEnd, len(many)+20, "", nil))
	wantNotLoaded(t, many+" p :- unknown. ", fault(errUnknown, 3, "unknown/0", nil))
	wantNotLoaded(t, many, fault(errStrata, 0, "p/0", nil))
	wantNotLoaded(t, strings.Replace(many, "co p/0.", "", 1), fault(errCode, -1, "", fault(errNames, -1, "a1023", nil)))
}

// wantNotAsked stops the test unless a source is refused as a query, and there is no query behind it: of a session without one, and of one in the midst of answers.
func wantNotAsked(t *testing.T, s *session.Session, source string, cause *api.Fault) {
	t.Helper()
	preds := s.Preds()
	for _, ahead := range []string{"", "X = a.", "dif(X, a)."} {
		for nexts := range 3 {
			if ahead != "" {
				ask(t, s, ahead)
				for range nexts {
					if _, _, err := s.Next(9); err != nil {
						t.Fatal(err)
					}
				}
			}
			if err := s.Query(source); !isFault(err, refused(errQuery, cause)) {
				t.Fatalf("Query(%s): %v, want %v", short(source), err, cause)
			}
			wantNoQuery(t, s)
			wantPreds(t, s, preds...)
		}
	}
	wantAll(t, s, "X = f(Y).", "X = E1, Y = V1 where E1 = f(V1)")
}

// P19.1: ErrQuery: there is no program, whatever the query says.
func TestQueryWithoutProgram(t *testing.T) {
	for _, s := range []*session.Session{fresh(t, 1), fresh(t, 1000), fresh(t, mostWords)} {
		for _, query := range []string{"", "X = a.", "p.", "m(X", "'", strings.Repeat(" ", mostSource+1)} {
			if err := s.Query(query); !isFault(err, noProgram()) {
				t.Error(err)
			}
			wantNoQuery(t, s)
		}
	}
	// A program without clauses is one.
	s := loaded(t, 1000, "")
	wantNoQuery(t, s)
	wantAll(t, s, "X = a.", "X = a")
	if err := s.Query("p."); !isFault(err, refused(errQuery, fault(errUnknown, 0, "p/0", nil))) {
		t.Error(err)
	}
}

// P19.1: ErrQuery by parse.Query and by code.Query.
func TestNoQuery(t *testing.T) {
	s := loaded(t, 1000, sample)
	wantNotAsked(t, s, "m(X", fault(errEnd, 3, "", nil))
	wantNotAsked(t, s, "", fault(errEnd, 0, "", nil))
	wantNotAsked(t, s, "X = a", fault(errEnd, 5, "", nil))
	wantNotAsked(t, s, "X = a. b", fault(errSyntax, 7, "", nil))
	wantNotAsked(t, s, "X.", fault(errSyntax, 1, "", nil))
	wantNotAsked(t, s, "X = 'a", fault(errSource, 4, "", fault(errLexOpen, 4, "", nil)))
	wantNotAsked(t, s, "s(a), X = f(1,2,3,4,5,6,7,8,9).", fault(errArity, 28, "", nil))
	wantNotAsked(t, s, strings.Repeat(" ", mostSource)+".", fault(errSource, mostSource, "", fault(errLexLong, mostSource, "", nil)))
	wantNotAsked(t, s, "X = a, s(X), q.", fault(errUnknown, 2, "q/0", nil))
	wantNotAsked(t, s, "s(X, Y), q.", fault(errUnknown, 0, "s/2", nil))
	wantNotAsked(t, s, "'S'(X).", fault(errUnknown, 0, "'S'/1", nil))
	wantNotAsked(t, s, "s(a)"+strings.Repeat(", s(a)", mostGoals)+".", fault(errGoals, mostGoals+1, "", nil))
	wantNotAsked(t, s, "s(a), '.'(a, b).", fault(errGoal, 1, "", nil))
	wantNotAsked(t, s, "'[]'.", fault(errGoal, 0, "", nil))
	wantNotAsked(t, s, "s(["+repeated("a,", 2999)+"a]).", fault(errTie, -1, "", fault(errBig, 6001, "", nil)))
	wantNotAsked(t, s, "m(["+repeated("X#,", 2100)+"a], ["+repeated("Y#,", 2100)+"a]).", fault(errTie, -1, "", fault(errExprs, 4202, "", nil)))
}

// P19.1: ErrQuery by machine.Ask: too many names, and no room.
func TestNoMachine(t *testing.T) {
	full := "p([" + strings.TrimSuffix(repeated("a#,", 1020), ",") + "])."
	s := loaded(t, 1000, full)
	wantNotAsked(t, s, "X = g(X), Y = h(a5), Z = j.", fault(errCode, -1, "", fault(errNames, -1, "j", nil)))
	wantAll(t, s, "X = g(X), Y = h(a5).", "X = E1, Y = E2 where E1 = g(E1), E2 = h(a5)")
	small := func(size int) *session.Session { return loaded(t, size, "p(X, Y).") }
	room := func(size int) *api.Fault {
		return fault(errHeap, size, "", fault(errRoom, size, "", fault(errFull, size, "", nil)))
	}
	// The roots of the variables and of the call, and the variables themselves.
	if err := small(5).Query("p(X, Y)."); !isFault(err, refused(errQuery, room(6))) {
		t.Error(err)
	}
	s = small(12)
	wantNotAsked(t, s, "p([a,b,c], [X|Y]), X = f(Y).", room(2+2+2+2+9+3+2))
	wantAll(t, s, "p(X, Y).", "X = V1, Y = V2")
	// The order: what parse refuses, what code refuses, what the machine refuses.
	s = loaded(t, 30, full)
	wantNotAsked(t, s, "q, j = f(g,h,k,l), X = 'a b'.", fault(errSource, 25, "", fault(errLexByte, 25, "", nil)))
	wantNotAsked(t, s, "q, j = f(g,h,k,l)", fault(errEnd, 17, "", nil))
	wantNotAsked(t, s, "q, j = f(g,h,k,l).", fault(errUnknown, 0, "q/0", nil))
	wantNotAsked(t, s, "j = f(g,h,k,l), X = [1,2,3,4,5,6,7,8,9].", fault(errCode, -1, "", fault(errNames, -1, "g", nil)))
	wantNotAsked(t, s, "X = [1,2,3,4,5,6,7,8,9].", room(1+2+1+27))
}

// P19.1: ErrNext: spent budgets; a budget counts as 1 below 1, and as MaxFuel above it.
func TestSpent(t *testing.T) {
	program := "n(0). n(s(N)) :- n(N). loop :- loop."
	s := asked(t, 1000, program, "n(X).")
	for i, want := range []string{"X = 0", "", "X = E1 where E1 = s(0)", "", "X = E1 where E1 = s(s(0))"} {
		if want == "" {
			wantNoNext(t, s, 1-i, next(errFuel, -1))
			wantNoAnswer(t, s, next(errNoMore, -1))
		} else {
			wantNext(t, s, -i, want)
		}
		if s.Used() != i+1 {
			t.Fatal(s.Used())
		}
	}
	s = asked(t, 1000, program, "loop.")
	for i, budget := range []int{1, 0, -1, math.MinInt, 2, 7, mostFuel, mostFuel + 1, math.MaxInt} {
		before := s.Used()
		wantNoNext(t, s, budget, next(errFuel, -1))
		if spent := s.Used() - before; spent != []int{1, 1, 1, 1, 2, 7, mostFuel, mostFuel, mostFuel}[i] {
			t.Error(budget, spent)
		}
	}
}

// P19.1: ErrNext: no room, and too many disequalities, as often as one asks; and an answer ahead of it is none any more.
func TestNoRoom(t *testing.T) {
	// The query's three words stay; the clause has a root and a list of ten, each with three words.
	for size := 31; size < 37; size++ {
		s := asked(t, size, "p(a). p([a,b,c,d,e,f,g,h,i,j]). p(b).", "p(X).")
		wantNext(t, s, 5, "X = a")
		if size >= 3+1+10*3 {
			wantNext(t, s, 5, "X = E1 where E1 = [a,b,c,d,e,f,g,h,i,j]")
			wantNext(t, s, 5, "X = b")
			wantNoNextBehindEnd(t, s)
			continue
		}
		for range 3 {
			wantNoNext(t, s, 5, refused(errNext, fault(errHeap, 31, "", fault(errRoom, 31, "", fault(errFull, 31, "", nil)))))
			wantNoAnswer(t, s, next(errNoMore, -1))
			if s.Used() != 1 {
				t.Fatal(s.Used())
			}
		}
	}
	program := repeated("d#(X) :- "+difsTo(32)+". ", 9)
	s := asked(t, 20000, program, "X = f(Y), "+strings.TrimSuffix(repeated("d#(Y), ", 8), ", ")+", dif(Y, last).")
	for range 3 {
		wantNoNext(t, s, mostFuel, next(errDifs, mostDifs))
		wantNoAnswer(t, s, next(errNoMore, -1))
	}
	ask(t, s, strings.TrimSuffix(repeated("d#(Y), ", 8), ", ")+", dif(_, f(Y)).")
	wantNoNext(t, s, mostFuel, next(errDifs, mostDifs))
	wantAll(t, s, strings.TrimSuffix(repeated("d#(Y), ", 8), ", ")+".", "Y = V1"+strings.Repeat(strings.TrimSuffix(repeated(", dif(V1, #)", 32), ""), 8))
}

// difsTo is goals that keep X apart from so many numbers.
func difsTo(count int) string { return strings.TrimSuffix(repeated("dif(X, #), ", count), ", ") }

// P19.1: ErrNext: an answer that is too large; it is passed, and the next Next goes on behind it.
func TestTooLargeAnswers(t *testing.T) {
	program := "two(0, 0). two(X, Y) :- tree(X), tree(Y). two(1, 1). two(X, a) :- tree(X). two(2, 2). tree([" + strings.TrimSuffix(repeated("f(#),", 1000), ",") + "])."
	s := asked(t, mostWords, program, "two(X, Y).")
	for range 2 {
		wantNext(t, s, 9, "X = 0, Y = 0")
		// Both lists are alike, but each has places of its own.
		cause := fault(errAnswer, -1, "", fault(errLarge, largeOf(1000), "", nil))
		wantNoNext(t, s, 9, refused(errNext, cause))
		for range 2 {
			wantNoAnswer(t, s, refused(errNext, cause))
		}
		if s.Used() != 4 {
			t.Fatal(s.Used())
		}
		wantNext(t, s, 9, "X = 1, Y = 1")
		text, ok, err := s.Next(9)
		if !strings.HasPrefix(text, "X = E1, Y = a where E1 = [f(0),f(1),") || !strings.HasSuffix(text, ",f(999)]") || !ok || err != nil {
			t.Fatal(short(text), ok, err)
		}
		wantNext(t, s, 9, "X = 2, Y = 2")
		wantNext(t, s, 9, "")
		wantNoNextBehindEnd(t, s)
		ask(t, s, "two(X, Y).")
	}
	// More cells than may be told.
	program = "w(X) :- v(X), v(X), v(X), v(X). v(X) :- u(X), u(X), u(X), u(X). u(X) :- t(X), t(X), t(X), t(X). t(X) :- " + strings.TrimSuffix(repeated("k(X,X,X,X,X,X,X,X), ", 9), ", ") + ". k(A,B,C,D,E,F,G,H)."
	s = asked(t, mostWords, program, "w(X).")
	wantNoNext(t, s, mostFuel, refused(errNext, fault(errAnswer, -1, "", fault(errLarge, 1+1+4+16+64+64*9*8, "", nil))))
	wantNext(t, s, mostFuel, "")
}

// largeOf is how many nodes are counted of two lists of so many compounds of one integer each: places of compounds in each list, integers and [] once.
func largeOf(count int) int { return 2*2*count + count + 1 }

func wantNoNextBehindEnd(t *testing.T, s *session.Session) {
	t.Helper()
	used := s.Used()
	for range 3 {
		wantNext(t, s, 9, "")
		wantNoAnswer(t, s, next(errNoMore, -1))
	}
	if s.Used() != used {
		t.Fatal(s.Used(), used)
	}
}

// P19.1: New: sizes that no store has, and all edges of those that one has; a program can be loaded in each.
func TestSizes(t *testing.T) {
	for _, size := range []int{0, -1, mostWords + 1, math.MinInt, math.MaxInt} {
		if s, err := session.New(size); s != nil || !isFault(err, fault(errNew, size, "", fault(errMax, size, "", nil))) {
			t.Error(s, err)
		}
	}
	for _, size := range []int{1, 2, 3, 4, 5, 100, mostWords - 1, mostWords} {
		s := loaded(t, size, "p. p(X, Y, f(X)).")
		wantPreds(t, s, "p/0", "p/3")
		wantAll(t, s, "p.", "yes")
		// Two words for the variable, and for the equation two more.
		err := s.Query("X = a.")
		if want := 4; size < want {
			if !isFault(err, refused(errQuery, fault(errHeap, want, "", fault(errRoom, want, "", fault(errFull, want, "", nil))))) {
				t.Error(size, err)
			}
		} else if err != nil {
			t.Error(size, err)
		} else {
			wantNext(t, s, 1, "X = a")
		}
	}
}

// P19.1: a nil session, at every call.
func TestNilSession(t *testing.T) {
	var s *session.Session
	none := fault(errNil, -1, "", nil)
	for range 2 {
		for _, source := range []string{"", "p.", "X = a.", "'", sample} {
			if err := s.Load(source); !isFault(err, none) {
				t.Error(err)
			}
			if err := s.Query(source); !isFault(err, none) {
				t.Error(err)
			}
		}
		for _, budget := range []int{0, 1, math.MaxInt, math.MinInt} {
			wantNoNext(t, s, budget, none)
		}
		wantNoAnswer(t, s, next(errNoQuery, -1))
		if n, err := s.Compact(); n != 0 || !isFault(err, none) {
			t.Error(n, err)
		}
		if s.Used() != 0 || len(s.Preds()) != 0 {
			t.Error(s.Used(), s.Preds())
		}
		text, err := s.Show(api.Answer{Graph: api.Graph{Nodes: []api.Node{{Kind: kAtom, Name: "a"}}, Roots: []int{0}}, Vars: []string{"X"}})
		if text != "X = a" || err != nil {
			t.Error(text, err)
		}
		if text, err := s.Show(api.Answer{Vars: []string{"X"}}); text != "" || !isFault(err, notWhole()) {
			t.Error(text, err)
		}
	}
}

// P19.1: Load and Query anew, in the midst of answers.
func TestAnew(t *testing.T) {
	s := asked(t, 1000, sample, "m(X, [a,b,c]).")
	wantNext(t, s, 9, "X = a")
	ask(t, s, "m(X, [a,b,c]).")
	wantNoAnswer(t, s, next(errNoMore, -1))
	if s.Used() != 0 {
		t.Fatal(s.Used())
	}
	wantNext(t, s, 9, "X = a")
	wantNext(t, s, 9, "X = b")
	ask(t, s, "X = [Y|X], s(X).")
	wantNext(t, s, 9, "X = E1, Y = V1 where E1 = [V1|E1]")
	for _, program := range []string{"", sample, "m(new, Y)."} {
		if err := s.Load(program); err != nil {
			t.Fatal(err)
		}
		wantNoQuery(t, s)
	}
	wantPreds(t, s, "m/2")
	wantAll(t, s, "m(X, Y).", "X = new, Y = V1")
	if err := s.Query("s(X)."); !isFault(err, refused(errQuery, fault(errUnknown, 0, "s/1", nil))) {
		t.Fatal(err)
	}
	wantNoQuery(t, s)
	// The budget of a query is its own, and so is its store.
	for range 50 {
		ask(t, s, "m(X, ["+strings.Join(slices.Repeat([]string{"f(_)"}, 100), ",")+"]).")
		wantNext(t, s, 1, "X = new")
	}
}
