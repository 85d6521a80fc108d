package machine_test

import (
	"errors"
	"slices"
	"strconv"
	"strings"
	"testing"

	"tendril/api"
	"tendril/code"
	"tendril/machine"
	"tendril/parse"
	"tendril/show"
)

// The limits and the numbers are spelt here, apart from the program.
const (
	mostWords = 65536
	mostNames = 1024
	mostNodes = 4096
	mostGoals = 32
	mostDifs  = 256
	mostFuel  = 10000
	widest    = 8
	great     = 1 << 50

	kVar  = 1
	kAtom = 2
	kInt  = 3
	kComp = 4

	isSame = 2
	isOpen = 3

	call = 1
	eq   = 2
	dif  = 3

	errNil      = 1
	errMax      = 20
	errFull     = 22
	errNames    = 31
	errNew      = 110
	errRoom     = 112
	errLarge    = 117
	errDifs     = 141
	errTemplate = 168
	errCode     = 180
	errNoQuery  = 181
	errFuel     = 182
	errHeap     = 183
	errNoMore   = 184
	errAnswer   = 185
)

// compiled is the code of what a source says.
func compiled(source string) api.Code {
	p, err := parse.Program(source)
	if err != nil {
		panic(source + ": " + err.Error())
	}
	x, err := code.Compile(p)
	if err != nil {
		panic(source + ": " + err.Error())
	}
	return x
}

// query is the rule of what a source asks of a code, and its variables.
func query(x api.Code, source string) (api.Rule, []string) {
	goals, err := parse.Query(source)
	if err != nil {
		panic(source + ": " + err.Error())
	}
	r, names, err := code.Query(x, goals)
	if err != nil {
		panic(source + ": " + err.Error())
	}
	return r, names
}

// foretoldText is what becomes of a query in so many attempts at most. A query without goals is written as the empty text.
func foretoldText(program, asked string, most int) *oracle {
	x := compiled(program)
	r, names := rule(x, asked)
	return foretold(x, r, names, most)
}

// rule is a query's rule; of the empty text that of a query without goals.
func rule(x api.Code, asked string) (api.Rule, []string) {
	if asked == "" {
		return api.Rule{Pred: -1}, nil
	}
	return query(x, asked)
}

// made is a machine for a code.
func made(t *testing.T, x api.Code, size int) *machine.Machine {
	t.Helper()
	m, err := machine.New(x, size)
	if err != nil || m == nil {
		t.Fatal(m, err)
	}
	return m
}

// asked is a machine with a query.
func asked(t *testing.T, size int, program, source string) *machine.Machine {
	t.Helper()
	x := compiled(program)
	m := made(t, x, size)
	ask(t, m, x, source)
	return m
}

// ask gives a machine a query that it takes.
func ask(t *testing.T, m *machine.Machine, x api.Code, source string) {
	t.Helper()
	r, names := rule(x, source)
	if err := m.Ask(r, names); err != nil {
		t.Fatal(source, err)
	}
}

// isFault tells whether an error is a fault itself, of this number and place and without a name, and with causes of these numbers and places, one behind the other.
func isFault(err error, number, at int, causes ...int) bool {
	f, ok := err.(*api.Fault)
	if !ok || f == nil || f.Code != api.Errno(number) || f.At != at || f.Name != "" || !errors.Is(err, api.Errno(number)) {
		return false
	}
	if len(causes) == 0 {
		return f.Cause == nil
	}
	return isFault(f.Cause, causes[0], causes[1], causes[2:]...)
}

// vars is what an answer says of the variables, and behind these of the open disequalities.
func vars(a api.Answer) string {
	g := a.Graph
	g.Roots = g.Roots[:len(a.Vars)+2*a.Difs]
	s, err := show.Text(g)
	if err != nil {
		return err.Error()
	}
	return s
}

// proofs is what an answer's proofs say: each goal as =, # or p with its predicate's number; whose goal it is and which; by which clause or call it was done; and where its arguments lie.
func proofs(a api.Answer) string {
	var out []string
	for _, p := range a.Proofs {
		s := map[int]string{call: "p" + strconv.Itoa(p.Pred), eq: "=", dif: "#"}[p.Kind]
		if p.Kind != call && p.Pred != -1 {
			s += "?"
		}
		if p.Parent == -1 {
			s += " q"
		} else {
			s += " " + strconv.Itoa(p.Parent)
		}
		s += "." + strconv.Itoa(p.Place)
		if p.Rule != -1 {
			s += " by " + strconv.Itoa(p.Rule)
		}
		if p.Hyp != -1 {
			s += " as " + strconv.Itoa(p.Hyp)
		}
		out = append(out, s+" @"+strconv.Itoa(p.First)+"+"+strconv.Itoa(p.Count))
	}
	return strings.Join(out, "; ")
}

// answer is the answer of a machine that has one.
func answer(t *testing.T, m *machine.Machine) api.Answer {
	t.Helper()
	a, err := m.Answer()
	if err != nil {
		t.Fatal(err)
	}
	return a
}

// wantNext stops the test unless Next answers true, or false without an error, with so many attempts made.
func wantNext(t *testing.T, m *machine.Machine, budget int, want bool, used int) {
	t.Helper()
	ok, err := m.Next(budget)
	if ok != want || err != nil || m.Used() != used {
		t.Fatalf("Next(%d) = %v, %v with %d attempts, want %v with %d", budget, ok, err, m.Used(), want, used)
	}
}

// wantFuel stops the test unless Next answers ErrFuel, with so many attempts made.
func wantFuel(t *testing.T, m *machine.Machine, budget, used int) {
	t.Helper()
	ok, err := m.Next(budget)
	if ok || !isFault(err, errFuel, -1) || m.Used() != used {
		t.Fatalf("Next(%d) = %v, %v with %d attempts, want ErrFuel with %d", budget, ok, err, m.Used(), used)
	}
}

// wantNone stops the test unless there is no answer to be told, for this reason.
func wantNone(t *testing.T, m *machine.Machine, number int) {
	t.Helper()
	a, err := m.Answer()
	if !isFault(err, number, -1) || !isZero(a) {
		t.Fatal(a, err)
	}
}

func isZero(a api.Answer) bool {
	return a.Graph.Nodes == nil && a.Graph.Roots == nil && a.Vars == nil && a.Difs == 0 && a.Proofs == nil
}

// rows is all answers up to the end, or so many: of each how many attempts were made, and what the variables are.
func rows(t *testing.T, m *machine.Machine, most int) string {
	t.Helper()
	var out []string
	for range most {
		ok, err := m.Next(mostFuel)
		if err != nil {
			t.Fatal(err)
		}
		used := strconv.Itoa(m.Used())
		if !ok {
			out = append(out, used+": no")
			break
		}
		out = append(out, strings.TrimSpace(used+": "+vars(answer(t, m))))
	}
	return strings.Join(out, " | ")
}

// example is a program, a query, and rows of answers; where there is no end, a .. stands behind the last.
type example struct{ program, query, want string }

// wantAll stops the test unless these are the answers, and are so too in each of the ways in which a query is played.
func (x example) wantAll(t *testing.T) {
	t.Helper()
	want, endless := strings.CutSuffix(x.want, " ..")
	most := 1 << 30
	if endless {
		most = strings.Count(want, " | ") + 1
	}
	if got := rows(t, asked(t, 20000, x.program, x.query), most); got != want {
		t.Fatalf("%s ?- %s\n%s, want\n%s", x.program, x.query, got, want)
	}
	s := scriptOf(x.program, x.query, 60)
	s.playAll(t)
}

// P18.1: the examples of the chapter.
func TestExamples(t *testing.T) {
	stream := "co s/1. s([H|T]) :- s(T)."
	m := asked(t, 1000, stream, "X = [0|X], s(X).")
	wantNext(t, m, 10, true, 3)
	if a := answer(t, m); vars(a) != "E1 where E1 = [0|E1]" || proofs(a) != "= q.0 @1+2; p0 q.1 by 0 @3+1; p0 1.0 as 1 @4+1" || !slices.Equal(a.Vars, []string{"X"}) {
		t.Error(vars(a), proofs(a), a.Vars)
	}
	wantNext(t, m, 10, true, 5)
	if a := answer(t, m); proofs(a) != "= q.0 @1+2; p0 q.1 by 0 @3+1; p0 1.0 by 0 @4+1; p0 2.0 as 2 @5+1" {
		t.Error(proofs(a))
	}
	m = asked(t, 1000, "n(0). n(s(N)) :- n(N).", "n(X).")
	wantNext(t, m, 1, true, 1)
	if a := answer(t, m); vars(a) != "0" || proofs(a) != "p0 q.0 by 0 @1+1" {
		t.Error(vars(a), proofs(a))
	}
	wantFuel(t, m, 1, 2)
	wantNext(t, m, 1, true, 3)
	if a := answer(t, m); vars(a) != "E1 where E1 = s(0)" || proofs(a) != "p0 q.0 by 1 @1+1; p0 0.0 by 0 @2+1" {
		t.Error(vars(a), proofs(a))
	}
	m = made(t, compiled(""), 1)
	ask(t, m, compiled(""), "")
	wantNext(t, m, 1, true, 0)
	if a := answer(t, m); len(a.Vars) > 0 || a.Difs != 0 || len(a.Proofs) > 0 || len(a.Graph.Nodes) > 0 || len(a.Graph.Roots) > 0 {
		t.Error(a)
	}
	wantNext(t, m, 1, false, 0)
}

const whole = "co stream/1. stream([H|T]) :- stream(T). nat(0). nat(s(N)) :- nat(N). member(X, [X|T]). member(X, [Y|T]) :- dif(X, Y), member(X, T). "

// P5: the document's examples of the whole.
func TestWhole(t *testing.T) {
	for _, x := range []example{
		{whole, "X = [0|X], stream(X).", "3: E1 where E1 = [0|E1] | 5: E1 where E1 = [0|E1] | 6: E1 where E1 = [0|E1] | 8: E1 where E1 = [0|E1] .."},
		{whole, "nat(X).", "1: 0 | 3: E1 where E1 = s(0) | 5: E1 where E1 = s(s(0)) .."},
		{whole, "member(X, [a,b,a]).", "1: a | 4: b | 11: no"},
		{whole, "member(X, [Y]).", "1: V1, V1 | 5: no"},
		{whole, "dif(f(X), f(a)).", "1: V1, E1, E2 where E1 = f(V1), E2 = f(a) | 1: no"},
		{whole, "dif(X, Y), X = a, Y = a.", "3: no"},
		{whole, "X = f(Y, X), Y = g(X).", "2: E1, E2 where E1 = f(E2,E1), E2 = g(E1) | 2: no"},
		{whole, "X = f(X, a, X), Y = f(Y, a, f(Y, a, Y)), X = Y.", "3: E1, E1 where E1 = f(E1,a,E1) | 3: no"},
	} {
		x.wantAll(t)
	}
	// X = s(X), nat(X) has no answer that ends.
	m := asked(t, mostWords, whole, "X = s(X), nat(X).")
	wantFuel(t, m, mostFuel, mostFuel)
	wantFuel(t, m, 1, mostFuel+1)
}

// P18.1: queries without calls, and of predicates without clauses.
func TestFewGoals(t *testing.T) {
	for _, x := range []example{
		{"", "", "0: | 0: no"},
		{whole, "", "0: | 0: no"},
		{"", "X = Y.", "1: V1, V1 | 1: no"},
		{"", "X = X.", "1: V1 | 1: no"},
		{"", "a = a.", "1: | 1: no"},
		{"", "a = b.", "1: no"},
		{"", "7 = -7.", "1: no"},
		{"", "X = a, X = b, X = c.", "2: no"},
		{"", "X = a, Y = b, X = Y.", "3: no"},
		{"", "f(X, Y) = f(Y, a).", "1: a, a | 1: no"},
		{"", "X = f(X), Y = f(f(Y)), X = Y.", "3: E1, E1 where E1 = f(E1) | 3: no"},
		{"", "dif(a, b).", "1: | 1: no"},
		{"", "dif(a, a).", "1: no"},
		{"", "dif(X, X).", "1: no"},
		{"", "dif(X, a).", "1: V1, V1, a | 1: no"},
		{"", "dif(a, X), dif(X, Y), dif(Y, b).", "3: V1, V2, a, V1, V1, V2, V2, b | 3: no"},
		{"", "dif(X, a), X = b.", "2: b | 2: no"},
		{"", "dif(X, a), X = a.", "2: no"},
		{"", "X = a, dif(X, a).", "2: no"},
		{"", "X = b, dif(X, a).", "2: b | 2: no"},
		{"", "X = f(X), dif(X, f(f(X))).", "2: no"},
		{"co c/0.", "c.", "0: no"},
		{"co c/0.", "X = a, c, X = a.", "1: no"},
		{"co c/8.", "c(A, B, C, D, E, F, G, A).", "0: no"},
		{"co c/1. p(a). p(b).", "p(X), c(X).", "2: no"},
		{"co c/1. p(a) :- c(a). p(b).", "p(X).", "2: b | 2: no"},
		{"z.", "z.", "1: | 1: no"},
		{"z. z.", "z, z.", "2: | 3: | 5: | 6: | 6: no"},
	} {
		x.wantAll(t)
	}
}

// P18.1: clauses in their order, and answers one behind the other to their end.
func TestClauses(t *testing.T) {
	p := "p(a). p(b). p(c). q(b). q(c). q(d). "
	for _, x := range []example{
		{p, "p(X).", "1: a | 2: b | 3: c | 3: no"},
		{p, "p(X), q(X).", "3: b | 5: c | 5: no"},
		{p, "q(X), p(X).", "2: b | 4: c | 5: no"},
		{p, "p(X), q(Y), X = Y.", "10: b, b | 19: c, c | 21: no"},
		{p, "p(X), q(Y), dif(X, Y).", "3: a, b | 5: a, c | 7: a, d | 12: b, c | 14: b, d | 17: c, b | 21: c, d | 21: no"},
		{p + "r(X) :- p(X). r(X) :- q(X).", "r(X).", "2: a | 3: b | 4: c | 6: b | 7: c | 8: d | 8: no"},
		{p + "r(X) :- p(X), q(X). r(d). r(X) :- q(X), p(X).", "r(X).", "4: b | 6: c | 7: d | 10: b | 12: c | 13: no"},
		{p + "r(X, X). r(X, Y) :- p(X), p(Y).", "r(X, b).", "1: b | 4: a | 6: b | 8: c | 8: no"},
		{"p(X) :- X = a. p(X) :- dif(X, a). p(X).", "p(X).", "2: a | 4: V1, V1, a | 5: V1 | 5: no"},
		{"p(X) :- q, r(X). p(b). q :- q1. q :- q2. q1. q2. r(a).", "p(X).", "4: a | 7: a | 8: b | 8: no"},
		{"app([], L, L). app([H|T], L, [H|R]) :- app(T, L, R).", "app(X, Y, [a,b]).", "1: [], E1 where E1 = [a,b] | 3: E1, E2 where E1 = [a], E2 = [b] | 5: E1, [] where E1 = [a,b] | 6: no"},
		{"l(X) :- l(X). m(a).", "m(b), l(a).", "0: no"},
	} {
		x.wantAll(t)
	}
}

// P18.1: what the first argument holds as the call is done says which clauses are tried: some, one, none.
func TestFirstArgument(t *testing.T) {
	p := "p(a, 1). p(X, 2). p(f(Y), 3). p(b, 4). p(7, 5). p(f(Y, Z), 6). p([], 7). p([Y|Z], 8). "
	q := "q(a). q(7). q(f(a)). q(f(a,b)). q(g(a)). r(f(X)). r(f(X, Y)). "
	for _, x := range []example{
		{p, "p(a, N).", "1: 1 | 2: 2 | 2: no"},
		{p, "p(b, N).", "1: 2 | 2: 4 | 2: no"},
		{p, "p(c, N).", "1: 2 | 1: no"},
		{p, "p(7, N).", "1: 2 | 2: 5 | 2: no"},
		{p, "p(8, N).", "1: 2 | 1: no"},
		{p, "p(f(X), N).", "1: V1, 2 | 2: V1, 3 | 2: no"},
		{p, "p(f(X, X), N).", "1: V1, 2 | 2: V1, 6 | 2: no"},
		{p, "p(g(X), N).", "1: V1, 2 | 1: no"},
		{p, "p([], N).", "1: 2 | 2: 7 | 2: no"},
		{p, "p([a], N).", "1: 2 | 2: 8 | 2: no"},
		{p, "p(X, 6).", "6: E1 where E1 = f(V1,V2) | 8: no"},
		// What it holds as the call is done, not as it came to be.
		{p, "X = a, p(X, N).", "2: a, 1 | 3: a, 2 | 3: no"},
		{p + q, "q(X), p(X, N).", "2: a, 1 | 3: a, 2 | 5: 7, 2 | 6: 7, 5 | 8: E1, 2 where E1 = f(a) | 9: E1, 3 where E1 = f(a) | 11: E1, 2 where E1 = f(a,b) | 12: E1, 6 where E1 = f(a,b) | 14: E1, 2 where E1 = g(a) | 14: no"},
		{p + q + "s(X, N) :- r(X), p(X, N).", "s(X, N).", "3: E1, 2 where E1 = f(V1) | 4: E1, 3 where E1 = f(V1) | 6: E1, 2 where E1 = f(V1,V2) | 7: E1, 6 where E1 = f(V1,V2) | 7: no"},
		// Of what holds itself.
		{p, "X = f(X), p(X, N).", "2: E1, 2 where E1 = f(E1) | 3: E1, 3 where E1 = f(E1) | 3: no"},
		// None is left, and none is tried.
		{q, "q(b).", "0: no"},
		{q, "q(X), r(X).", "4: E1 where E1 = f(a) | 6: E1 where E1 = f(a,b) | 7: no"},
		// The first argument alone.
		{"p(X, a). p(X, b). p(X, c).", "p(z, b).", "2: | 3: no"},
	} {
		x.wantAll(t)
	}
}

// P18.1: arguments are told pair by pair: the first, a middle and the last one can't be one.
func TestPairByPair(t *testing.T) {
	p := "p(X, a, b, c). p(X, Y, Y, Y). p(X, X, X, X). "
	for _, x := range []example{
		{p, "p(X, Y, Z, U).", "1: V1, a, b, c | 2: V1, V2, V2, V2 | 3: V1, V1, V1, V1 | 3: no"},
		{p, "p(X, Z, b, c).", "1: V1, a | 3: no"},
		{p, "p(X, b, X, c).", "3: no"},
		{p, "p(a, a, a, X).", "2: a | 3: a | 3: no"},
		{p, "p(X, b, b, b).", "2: V1 | 3: b | 3: no"},
		{p, "p(a, X, Y, b).", "2: b, b | 3: no"},
		{"p(f(X), X, g(X)).", "p(f(a), Y, Y).", "1: no"},
		{"p(f(X), X, g(X)).", "p(Y, Y, Z).", "1: E1, E2 where E1 = f(E1), E2 = g(E1) | 1: no"},
		{"p(f(X), X, g(X)).", "p(f(a), b, Y).", "1: no"},
		{"p(f(X), X, g(X)).", "p(f(a), Y, g(b)).", "1: no"},
		{"p(f(X), X, g(X)).", "p(f(g(Y)), g(Z), Z).", "1: E1, E1 where E1 = g(E1) | 1: no"},
		{"p(1,2,3,4,5,6,7,8).", "p(1,2,3,4,5,6,7,X).", "1: 8 | 1: no"},
		{"p(1,2,3,4,5,6,7,8).", "p(1,2,3,4,5,6,7,9).", "1: no"},
		{"p(X,2,3,4,5,6,7,X).", "p(1,2,3,4,5,6,7,8).", "1: no"},
		// What was told of the first pairs is given up with the others.
		{"p(a, b, c). p(X, Y, d).", "p(X, Y, Z), Z = d.", "4: V1, V2, d | 4: no"},
		{"p(X, X, a) :- q(X). p(X, Y, Z). q(b).", "p(X, c, a).", "2: V1 | 2: no"},
		{"p(X, X, a) :- q(X). p(X, Y, Z). q(b).", "p(X, b, b).", "2: V1 | 2: no"},
		// A call above, likewise.
		{"co p/3. p(X, Y, Z) :- p(Y, Z, X).", "p(a, a, a).", "2: .."},
		{"co p/3. p(X, Y, Z) :- p(Y, Z, X).", "p(a, X, Y).", "2: a, a .."},
		{"co p/3. p(X, Y, Z) :- p(Y, Z, X).", "p(a, b, X).", "9: V1 .."},
		{"co p/3. p(X, Y, Z) :- p(Y, Z, X).", "p(a, a, b).", "9: .."},
	} {
		x.wantAll(t)
	}
}

// P18.1: disequalities that are open, that are false at once, that become false and true later, and those that are left.
func TestDisequalities(t *testing.T) {
	m := "m(X, [X|T]). m(X, [Y|T]) :- dif(X, Y), m(X, T). "
	for _, x := range []example{
		{m, "m(X, [a,Y]), dif(Y, b).", "2: a, V1, V1, b | 6: V1, V1, V1, a, V1, b | 10: no"},
		{m, "dif(X, a), m(X, [a,b,X]).", "5: b | 8: V1, V1, a, V1, a, V1, b | 10: no"},
		{m, "dif(X, Y), m(X, [a,b]), m(Y, [a,b]).", "6: a, b | 14: b, a | 25: no"},
		{"d(X, Y) :- dif(X, Y).", "d(X, Y), X = a, Y = b.", "4: a, b | 4: no"},
		{"d(X, Y) :- dif(X, Y).", "d(X, Y), X = a, Y = a.", "4: no"},
		{"d(X, Y) :- dif(X, Y).", "X = a, d(X, X), Y = a.", "3: no"},
		{"p(a). p(b). p(c).", "dif(X, Y), dif(Y, Z), dif(Z, X), p(X), p(Y), p(Z).", "9: a, b, c | 12: a, c, b | 18: b, a, c | 21: b, c, a | 27: c, a, b | 30: c, b, a | 33: no"},
		{"p(a). p(b).", "dif(f(X, Y), f(a, b)), p(X), p(Y).", "3: a, a | 6: b, a | 7: b, b | 7: no"},
		// Open ones come back with the goals that are given up.
		{"p(a). p(X).", "dif(X, Y), p(X), p(Y).", "4: a, V1, a, V1 | 6: V1, a, V1, a | 7: V1, V2, V1, V2 | 7: no"},
		{"p(a). p(X) :- dif(X, b). p(X).", "p(X), p(X).", "2: a | 4: a | 5: a | 8: a | 10: V1, V1, b, V1, b | 11: V1, V1, b | 13: a | 15: V1, V1, b | 16: V1 | 16: no"},
		// One that a head bars, and one that a call above bars.
		{"p(X, X). p(X, Y).", "dif(X, Y), p(X, Y).", "3: V1, V2, V1, V2 | 3: no"},
		{"co p/2. p(X, Y) :- dif(X, Y), p(Y, X).", "p(X, Y).", "7: V1, V2, V1, V2, V2, V1 .."},
		{"co p/2. p(X, Y) :- dif(X, Y), p(Y, X).", "p(X, X).", "2: no"},
	} {
		x.wantAll(t)
	}
}

// wantNoQuery stops the test unless a machine has no query.
func wantNoQuery(t *testing.T, m *machine.Machine) {
	t.Helper()
	for _, budget := range []int{-1, 1, mostFuel} {
		if ok, err := m.Next(budget); ok || !isFault(err, errNoQuery, -1) {
			t.Fatal(ok, err)
		}
	}
	wantNone(t, m, errNoQuery)
	if n, err := m.Compact(); n != 0 || err != nil {
		t.Fatal(n, err)
	}
	wantEmpty(t, m)
}

// wantEmpty stops the test unless a machine tells of no query.
func wantEmpty(t *testing.T, m *machine.Machine) {
	t.Helper()
	if m.Used() != 0 || m.Roots() != nil {
		t.Fatal(m.Used(), m.Roots())
	}
	if d := m.Dump(); d.Words != nil || d.Trail != nil || d.Marks != nil || d.Names != nil || d.Difs != nil {
		t.Fatal(d)
	}
}
