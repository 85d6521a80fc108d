package strata_test

import (
	"errors"
	"slices"
	"strconv"
	"strings"
	"testing"

	"tendril/api"
	"tendril/code"
	"tendril/parse"
	"tendril/strata"
)

// The limits and the numbers are spelt here, apart from the program.
const (
	mostClauses = 256
	mostGoals   = 32
	mostPreds   = 128
	mostNodes   = 4096

	kVar  = 1
	kAtom = 2
	kInt  = 3
	kComp = 4

	call = 1
	eq   = 2
	dif  = 3

	errTemplate = 168
	errStrata   = 170
)

// fine is where Check finds no predicate at fault.
const fine = -1

// calls is a rule's goals: calls of these predicates.
func calls(preds ...int) []api.Step {
	var out []api.Step
	for _, p := range preds {
		out = append(out, api.Step{Kind: call, Pred: p})
	}
	return out
}

// addRule gives a predicate a further rule, whose terms are all one atom.
func addRule(x *api.Code, pred int, goals []api.Step) {
	roots := x.Preds[pred].Arity
	for _, s := range goals {
		if s.Kind == call {
			roots += x.Preds[s.Pred].Arity
		} else {
			roots += 2
		}
	}
	x.Preds[pred].Clauses = append(x.Preds[pred].Clauses, len(x.Rules))
	g := api.Graph{Nodes: []api.Node{{Kind: kAtom, Name: "a"}}, Roots: make([]int, roots)}
	x.Rules = append(x.Rules, api.Rule{Pred: pred, Goals: goals, Graph: g})
}

// net is, for each predicate, those that it calls.
type net [][]int

// code is a code with these calls, of which these predicates are coinductive; each that calls any has one rule, or more if it calls many.
func (n net) code(co ...int) api.Code {
	var x api.Code
	for p := range n {
		x.Preds = append(x.Preds, api.Pred{Name: "p" + strconv.Itoa(p), Co: slices.Contains(co, p)})
	}
	for p, called := range n {
		for some := range slices.Chunk(called, mostGoals) {
			addRule(&x, p, calls(some...))
		}
	}
	return x
}

// compiled is the code of what a source says.
func compiled(source string) api.Code {
	p, err := parse.Program(source)
	if err != nil {
		panic(source + ": " + err.Error())
	}
	x, err := code.Compile(p)
	if err != nil {
		panic(source + ": " + err.Error())
	}
	return x
}

// isFault tells whether an error is this fault itself, without a cause.
func isFault(err error, number, at int, name string) bool {
	f, ok := err.(*api.Fault)
	return ok && f != nil && *f == api.Fault{Code: api.Errno(number), At: at, Name: name} && errors.Is(err, api.Errno(number))
}

// wantNet stops the test unless a code has these circles and these levels.
func wantNet(t *testing.T, x api.Code, circles, levels []int) {
	t.Helper()
	got, err := strata.Circles(x)
	if err != nil || !slices.Equal(got, circles) {
		t.Fatalf("circles %v, %v, want %v of %s", got, err, circles, told(x))
	}
	got, err = strata.Levels(x)
	if err != nil || !slices.Equal(got, levels) {
		t.Fatalf("levels %v, %v, want %v of %s", got, err, levels, told(x))
	}
}

// wantCheck stops the test unless Check finds this predicate at fault, with its name as it is written; or none, if it is fine.
func wantCheck(t *testing.T, x api.Code, at int) {
	t.Helper()
	err := strata.Check(x)
	if at == fine && err == nil || at != fine && isFault(err, errStrata, at, sign(x.Preds[at])) {
		return
	}
	t.Fatalf("%v, want the fault at %d of %s", err, at, told(x))
}

// told is the calls of a code as a text, cut off if it is long.
func told(x api.Code) string {
	var out strings.Builder
	for p, called := range netOf(x) {
		out.WriteString(" " + strconv.Itoa(p))
		if x.Preds[p].Co {
			out.WriteString("co")
		}
		for _, q := range called {
			out.WriteString("," + strconv.Itoa(q))
		}
	}
	return out.String()[:min(out.Len(), 1000)]
}

func want(t *testing.T, x api.Code, circles, levels []int, at int) {
	t.Helper()
	wantNet(t, x, circles, levels)
	wantCheck(t, x, at)
}

func wantSource(t *testing.T, source string, circles, levels []int, at int) {
	t.Helper()
	want(t, compiled(source), circles, levels, at)
}

// upTo is the numbers from 0 on, so many; same is one number so many times.
func upTo(count int) []int {
	var out []int
	for i := range count {
		out = append(out, i)
	}
	return out
}

func same(count, number int) []int { return slices.Repeat([]int{number}, count) }

func backwards(list []int) []int {
	out := slices.Clone(list)
	slices.Reverse(out)
	return out
}

// P17.1: the examples of the chapter.
func TestExamples(t *testing.T) {
	circles, levels := []int{0, 0, 2}, []int{1, 1, 0}
	wantSource(t, "p :- q. q :- p, r. r.", circles, levels, fine)
	wantSource(t, "co p/0. p :- q. q :- p, r. r.", circles, levels, 0)
	if err := strata.Check(compiled("co p/0. p :- q. q :- p, r. r.")); !isFault(err, 170, 0, "p/0") {
		t.Error(err)
	}
	wantSource(t, "co p/0. co q/0. p :- q. q :- p, r. r.", circles, levels, fine)
	// Here r is 0, p 1 and q 2, since what is declared comes first.
	wantSource(t, "co r/0. p :- q. q :- p, r. r.", []int{0, 1, 1}, []int{0, 1, 1}, fine)
	wantSource(t, "co p/0. p :- p.", []int{0}, []int{0}, fine)
}

// P17.1: the examples of the whole (9, and the program of the others).
func TestExamplesOfTheWhole(t *testing.T) {
	wantSource(t, "co stream/1. stream([H|T]) :- stream(T). nat(0). nat(s(N)) :- nat(N). member(X, [X|T]). member(X, [Y|T]) :- dif(X, Y), member(X, T).", []int{0, 1, 2}, []int{0, 0, 0}, fine)
	source := "co p/1. co stream/1. stream([H|T]) :- stream(T). p(X) :- stream(X), q(X). q(X) :- p(X)."
	wantSource(t, source, []int{0, 1, 0}, []int{1, 0, 1}, 0)
	if err := strata.Check(compiled(source)); !isFault(err, 170, 0, "p/1") {
		t.Error(err)
	}
}

// P17.1: codes without predicates.
func TestNoPredicates(t *testing.T) {
	for _, x := range []api.Code{{}, {Preds: []api.Pred{}, Rules: []api.Rule{}}, compiled("")} {
		want(t, x, nil, nil, fine)
	}
}

// P17.1: predicates that call none, of which none has a clause, or each has two.
func TestNoCalls(t *testing.T) {
	for _, count := range []int{1, 2, 63, 64, 65, 127, mostPreds} {
		x := make(net, count).code(0, count/2, 64)
		want(t, x, upTo(count), same(count, 0), fine)
		for p := range count {
			addRule(&x, p, nil)
			addRule(&x, p, []api.Step{{Kind: eq, Pred: -1}, {Kind: dif, Pred: -1}})
		}
		want(t, x, upTo(count), same(count, 0), fine)
	}
}

// P17.1: predicates that call themselves are at the level of what they call beside.
func TestSelfCalls(t *testing.T) {
	for _, count := range []int{1, 2, 64, 65, mostPreds} {
		n := make(net, count)
		for p := range n {
			n[p] = []int{p}
		}
		want(t, n.code(), upTo(count), same(count, 0), fine)
		want(t, n.code(0, 7, 64), upTo(count), same(count, 0), fine)
	}
	wantSource(t, "p :- p. q :- q, p. r :- p, r, q, r.", []int{0, 1, 2}, []int{0, 1, 2}, fine)
	wantSource(t, "co q/0. p :- p. q :- q, p. r :- p, r, q, r.", []int{0, 1, 2}, []int{1, 0, 2}, fine)
}

// P17.1: predicates that call one by several goals, and by several rules; predicates of several rules, each of which calls others.
func TestSeveralCalls(t *testing.T) {
	wantSource(t, "p :- q, q, q. q.", []int{0, 1}, []int{1, 0}, fine)
	wantSource(t, "p :- q. p :- q. p. q. q. p :- q, q.", []int{0, 1}, []int{1, 0}, fine)
	wantSource(t, "p :- q, q. q :- p. q :- p, p.", []int{0, 0}, []int{0, 0}, fine)
	wantSource(t, "co q/0. p :- q, q. q :- p. q :- p, p.", []int{0, 0}, []int{0, 0}, 0)
	wantSource(t, "p. p :- q. p :- r. q :- r. r :- s. s. q.", upTo(4), []int{3, 2, 1, 0}, fine)
	// Only the last of three rules, and only the last of its goals, closes the circle.
	wantSource(t, "p. p :- r, r. p :- r, r, q. q. q :- r. q :- r, r, p. r.", []int{0, 0, 2}, []int{1, 1, 0}, fine)
	// Rules of one predicate with those of others between.
	x := make(net, 3).code(2)
	for range 4 {
		addRule(&x, 0, calls(1))
		addRule(&x, 1, nil)
		addRule(&x, 2, calls(1, 0))
	}
	want(t, x, upTo(3), []int{1, 0, 2}, fine)
	addRule(&x, 1, calls(2))
	want(t, x, same(3, 0), same(3, 0), 0)
}

// P17.1: a rule with as many goals as may be, of which one closes the circle; as many rules as may be, likewise.
func TestManyGoals(t *testing.T) {
	for at := range mostGoals {
		x := net{{}, {0}, {}}.code(1)
		goals := calls(same(mostGoals, 2)...)
		goals[at].Pred = 1
		addRule(&x, 0, goals)
		want(t, x, []int{0, 0, 2}, []int{1, 1, 0}, 0)
	}
	for at := 0; at < mostClauses-1; at += 17 {
		x := net{{}, {0}, {}}.code(1)
		for i := range mostClauses - 1 {
			if i == at {
				addRule(&x, 0, calls(1))
			} else {
				addRule(&x, 0, calls(2))
			}
		}
		want(t, x, []int{0, 0, 2}, []int{1, 1, 0}, 0)
	}
}

// P17.1: predicates without clauses are called as others are.
func TestNoClauses(t *testing.T) {
	wantSource(t, "co s/1.", []int{0}, []int{0}, fine)
	wantSource(t, "co s/1. co t/0. p :- s(X). q :- p, t.", upTo(4), []int{0, 0, 1, 2}, fine)
	x := net{{1}, {}, {1, 3}, {2}}.code(1)
	if len(x.Preds[1].Clauses) != 0 {
		t.Fatal(x.Preds)
	}
	want(t, x, []int{0, 1, 2, 2}, []int{1, 0, 1, 1}, fine)
	x.Preds[1].Co = false
	want(t, x, []int{0, 1, 2, 2}, []int{1, 0, 1, 1}, fine)
}

// P17.1: equations and disequalities are no calls, whatever stands in them.
func TestOtherGoals(t *testing.T) {
	wantSource(t, "co q/0. p :- q = p. q :- p = q, dif(p, q).", []int{0, 1}, []int{0, 0}, fine)
	wantSource(t, "co q/0. p :- X = Y, q, dif(X, Y). q :- dif(p, p), p = p, dif(q, p).", []int{0, 1}, []int{0, 1}, fine)
	wantSource(t, "co q/0. p :- X = Y, q, dif(X, Y). q :- dif(p, p), p = p, dif(q, p), p.", []int{0, 0}, []int{0, 0}, 0)
	wantSource(t, "co p/2. p(q, f(q)) :- p(q, X), X = q. q :- p(q, q). dif(X) :- dif(X, q), dif(X). dif(X, Y, Z) :- dif(X), dif(Y, Z).", upTo(4), []int{0, 1, 0, 1}, fine)
	// A name with another number of arguments is another predicate.
	wantSource(t, "co p/1. p(X) :- p. p :- p(a, b). p(X, Y).", upTo(3), []int{2, 1, 0}, fine)
	wantSource(t, "co p/1. p(X) :- p. p :- p(a, b). p(X, Y) :- p(Y).", same(3, 0), same(3, 0), 0)
}

// P17.1: one circle through all predicates, in steps of each length that meets all of them.
func TestOneCircle(t *testing.T) {
	for _, count := range []int{2, 3, 64, 65, 101, 127, mostPreds} {
		for step := 1; step < count; step += 2 {
			if count%2 == 1 && count != 101 && step > 2 {
				break
			}
			n := make(net, count)
			for p := range n {
				n[p] = []int{(p + step) % count}
			}
			want(t, n.code(), same(count, 0), same(count, 0), fine)
			want(t, n.code(upTo(count)...), same(count, 0), same(count, 0), fine)
			for _, odd := range []int{0, 1, count / 2, count - 1} {
				wantCheck(t, n.code(odd), 0)
			}
		}
	}
}

// P17.1: a circle through all but one call is none.
func TestBrokenCircle(t *testing.T) {
	for _, gap := range []int{0, 1, 62, 63, 64, 65, 126, 127} {
		n := make(net, mostPreds)
		levels := make([]int, mostPreds)
		for p := range n {
			if p != gap {
				n[p] = []int{(p + 1) % mostPreds}
			}
			levels[p] = (gap - p + mostPreds) % mostPreds
		}
		want(t, n.code(5, 64), upTo(mostPreds), levels, fine)
	}
}

// P17.1: chains as long as there may be predicates, in both orders of their numbers, and from the middle outwards.
func TestChains(t *testing.T) {
	for _, count := range []int{2, 3, 64, 65, mostPreds} {
		down, up := make(net, count), make(net, count)
		for p := range count - 1 {
			down[p+1] = []int{p}
			up[p] = []int{p + 1}
		}
		want(t, down.code(0, 2), upTo(count), upTo(count), fine)
		want(t, up.code(0, 2), upTo(count), backwards(upTo(count)), fine)
	}
	n := make(net, mostPreds)
	levels := make([]int, mostPreds)
	for p := range 63 {
		n[p], n[127-p] = []int{127 - p}, []int{p + 1}
		levels[p], levels[127-p] = 127-2*p, 126-2*p
	}
	n[63], levels[63], levels[64] = []int{64}, 1, 0
	want(t, n.code(), upTo(mostPreds), levels, fine)
}

// P17.1: chains of circles of two, in both orders of their numbers.
func TestChainsOfCircles(t *testing.T) {
	var down, up net
	var circles, levels []int
	for p := 0; p < mostPreds; p += 2 {
		down = append(down, []int{p + 1}, []int{p})
		up = append(up, []int{p + 1}, []int{p})
		circles = append(circles, p, p)
		levels = append(levels, p/2, p/2)
		if p > 0 {
			down[p] = append(down[p], p-1)
			up[p-1] = append(up[p-1], p)
		}
	}
	want(t, down.code(), circles, levels, fine)
	want(t, up.code(), circles, backwards(levels), fine)
	want(t, down.code(62, 63, 64, 65), circles, levels, fine)
	for _, odd := range []int{0, 1, 62, 63, 64, 65, 126, 127} {
		wantCheck(t, down.code(odd), odd-odd%2)
		wantCheck(t, up.code(odd), odd-odd%2)
	}
}

// P17.1: two circles that touch at one predicate are one.
func TestTouchingCircles(t *testing.T) {
	for touch := range 3 {
		for _, one := range []net{{{1}, {0}, {}}, {{2}, {}, {0}}, {{}, {2}, {1}}} {
			if len(one[touch]) == 0 {
				continue
			}
			other := slices.IndexFunc(one, func(called []int) bool { return len(called) == 0 })
			n := slices.Clone(one)
			n[touch] = append([]int{other}, n[touch]...)
			n[other] = []int{touch}
			want(t, n.code(), same(3, 0), same(3, 0), fine)
			for odd := range 3 {
				wantCheck(t, n.code(odd), 0)
			}
		}
	}
	// Two circles of three that have the predicate 4 in common, with one above and one below.
	n := net{{2}, {4}, {1, 6}, {5}, {2, 3}, {4}, {}}
	want(t, n.code(0, 6), []int{0, 1, 1, 1, 1, 1, 6}, []int{2, 1, 1, 1, 1, 1, 0}, fine)
	wantCheck(t, n.code(3), 1)
	wantCheck(t, n.code(1, 2, 4), 1)
	wantCheck(t, n.code(1, 2, 3, 4, 5), fine)
}

// P17.1: a circle within a longer one is no circle of its own.
func TestCircleWithin(t *testing.T) {
	n := net{{1}, {2, 4}, {1, 3}, {0}, {}}
	want(t, n.code(4), []int{0, 0, 0, 0, 4}, []int{1, 1, 1, 1, 0}, fine)
	wantCheck(t, n.code(1, 2), 0)
	wantCheck(t, n.code(0, 3), 0)
	wantCheck(t, n.code(0, 1, 2, 3), fine)
	// Without the call that closes the longer one, just the shorter one is left.
	n[3] = nil
	want(t, n.code(1, 2), []int{0, 1, 1, 3, 4}, []int{2, 1, 1, 0, 0}, fine)
}

// P17.1: circles that lead to one another one way stay apart, whichever of their predicates call.
func TestOneWay(t *testing.T) {
	for from := range 3 {
		for to := 3; to < 6; to++ {
			n := net{{1}, {2}, {0}, {4}, {5}, {3}}
			n[from] = append([]int{to}, n[from]...)
			want(t, n.code(0, 1, 2), []int{0, 0, 0, 3, 3, 3}, []int{1, 1, 1, 0, 0, 0}, fine)
			n = net{{1}, {2}, {0}, {4}, {5}, {3}}
			n[to] = append(n[to], from)
			want(t, n.code(3, 4, 5), []int{0, 0, 0, 3, 3, 3}, []int{0, 0, 0, 1, 1, 1}, fine)
			n[from] = append(n[from], to)
			want(t, n.code(3, 4, 5), same(6, 0), same(6, 0), 0)
		}
	}
	// Over predicates between, that are in no circle.
	wantSource(t, "a :- b. b :- a, c. c :- d. d :- e. e :- f. f :- e.", []int{0, 0, 2, 3, 4, 4}, []int{3, 3, 2, 1, 0, 0}, fine)
}

// P17.1: a circle above others of unlike levels is one above the greatest, whichever of its predicates calls which, and however its calls stand.
func TestUnlikeLevels(t *testing.T) {
	for high := range 3 {
		for low := range 3 {
			for _, order := range [][]int{{3, 5, 6}, {6, 5, 3}, {5, 3, 6}} {
				// 3 is at the level 0, 4 at 1, 5 at 2, and 6 at 1; 0, 1 and 2 are the circle.
				n := net{{1}, {2}, {0}, {}, {3}, {4}, {3}}
				n[low] = append(n[low], order...)
				n[high] = append([]int{3}, n[high]...)
				want(t, n.code(), []int{0, 0, 0, 3, 4, 5, 6}, []int{3, 3, 3, 0, 1, 2, 1}, fine)
			}
			n := net{{1}, {2}, {0}, {}, {3}, {4}, {3}}
			n[low] = append(n[low], 3)
			n[high] = append(n[high], 5)
			want(t, n.code(0, 1, 2, 5), []int{0, 0, 0, 3, 4, 5, 6}, []int{3, 3, 3, 0, 1, 2, 1}, fine)
		}
	}
	// Two ways of unlike length to one predicate: the longer one counts.
	wantSource(t, "p :- t, q. q :- r. r :- s. s :- t. t.", upTo(5), []int{4, 3, 2, 1, 0}, fine)
	wantSource(t, "p :- q, t. t. q :- r. s :- t. r :- t, s, t.", upTo(5), []int{4, 0, 3, 1, 2}, fine)
}
