package machine_test

import (
	"slices"
	"strings"
	"testing"

	"tendril/api"
)

// allProofs is the proofs of so many answers, or of all up to the end.
func allProofs(t *testing.T, x example, most int) []string {
	t.Helper()
	m := asked(t, 20000, x.program, x.query)
	var out []string
	for range most {
		ok, err := m.Next(mostFuel)
		if err != nil {
			t.Fatal(err)
		}
		if !ok {
			return append(out, "no")
		}
		out = append(out, proofs(answer(t, m)))
	}
	return out
}

// wantProofs stops the test unless these are the proofs of the answers, to the end if it is told, and the query is played in all ways.
func wantProofs(t *testing.T, program, asked string, want ...string) {
	t.Helper()
	x := example{program: program, query: asked}
	if got := allProofs(t, x, len(want)); !slices.Equal(got, want) {
		t.Fatalf("%s ?- %s\n%s, want\n%s", program, asked, strings.Join(got, "\n"), strings.Join(want, "\n"))
	}
	scriptOf(program, asked, 50).playAll(t)
}

// P18.3: each goal's Parent, Place, Rule, First and Count: goals stand as they came to be, the query's first, then those of each clause that was taken, be they done at once or later.
func TestProofs(t *testing.T) {
	wantProofs(t, "a :- b(1), c(2,3). b(X) :- d(X, X, X), e. c(X, Y) :- e, dif(X, Y), X = X. d(X, Y, Z). e.", "X = Y, a, e.",
		"= q.0 @2+2; p0 q.1 by 0 @4+0; p4 q.2 by 4 @4+0; p1 1.0 by 1 @4+1; p2 1.1 by 2 @5+2; p3 3.0 by 3 @7+3; p4 3.1 by 4 @10+0; p4 4.0 by 4 @10+0; # 4.1 @10+2; = 4.2 @12+2", "no")
	// Goals of one predicate at several places.
	wantProofs(t, "t(X) :- u(X), u(X). u(X) :- v, w. v. w.", "t(1), t(2).",
		"p0 q.0 by 0 @0+1; p0 q.1 by 0 @1+1; p1 0.0 by 1 @2+1; p1 0.1 by 1 @3+1; p2 2.0 by 2 @4+0; p3 2.1 by 3 @4+0; p2 3.0 by 2 @4+0; p3 3.1 by 3 @4+0; p1 1.0 by 1 @4+1; p1 1.1 by 1 @5+1; p2 8.0 by 2 @6+0; p3 8.1 by 3 @6+0; p2 9.0 by 2 @6+0; p3 9.1 by 3 @6+0", "no")
	// Behind the two sides of disequalities that are open.
	wantProofs(t, "p(X) :- dif(X, a), dif(b, X).", "p(X).", "p0 q.0 by 0 @5+1; # 0.0 @6+2; # 0.1 @8+2", "no")
	wantProofs(t, "p(X) :- dif(X, a), dif(b, X).", "p(X), p(Y), X = c.",
		"p0 q.0 by 0 @6+1; p0 q.1 by 0 @7+1; = q.2 @8+2; # 0.0 @10+2; # 0.1 @12+2; # 1.0 @14+2; # 1.1 @16+2", "no")
}

// P18.3: behind going back, the goals that were given up are gone, and those that are done anew are told anew.
func TestProofsBehindGoingBack(t *testing.T) {
	wantProofs(t, "p :- q. p. q :- r, r. q. r.", "p, p.",
		"p0 q.0 by 0 @0+0; p0 q.1 by 0 @0+0; p1 0.0 by 2 @0+0; p2 2.0 by 4 @0+0; p2 2.1 by 4 @0+0; p1 1.0 by 2 @0+0; p2 5.0 by 4 @0+0; p2 5.1 by 4 @0+0",
		"p0 q.0 by 0 @0+0; p0 q.1 by 0 @0+0; p1 0.0 by 2 @0+0; p2 2.0 by 4 @0+0; p2 2.1 by 4 @0+0; p1 1.0 by 3 @0+0",
		"p0 q.0 by 0 @0+0; p0 q.1 by 1 @0+0; p1 0.0 by 2 @0+0; p2 2.0 by 4 @0+0; p2 2.1 by 4 @0+0",
		"p0 q.0 by 0 @0+0; p0 q.1 by 0 @0+0; p1 0.0 by 3 @0+0; p1 1.0 by 2 @0+0; p2 3.0 by 4 @0+0; p2 3.1 by 4 @0+0",
		"p0 q.0 by 0 @0+0; p0 q.1 by 0 @0+0; p1 0.0 by 3 @0+0; p1 1.0 by 3 @0+0",
		"p0 q.0 by 0 @0+0; p0 q.1 by 1 @0+0; p1 0.0 by 3 @0+0",
		"p0 q.0 by 1 @0+0; p0 q.1 by 0 @0+0; p1 1.0 by 2 @0+0; p2 2.0 by 4 @0+0; p2 2.1 by 4 @0+0",
		"p0 q.0 by 1 @0+0; p0 q.1 by 0 @0+0; p1 1.0 by 3 @0+0",
		"p0 q.0 by 1 @0+0; p0 q.1 by 1 @0+0", "no")
	// The first goal is done otherwise, the second one by another clause for that.
	wantProofs(t, "p(a). p(b). q(a) :- r. q(b). r.", "p(X), q(X).",
		"p0 q.0 by 0 @1+1; p1 q.1 by 2 @2+1; p2 1.0 by 4 @3+0", "p0 q.0 by 1 @1+1; p1 q.1 by 3 @2+1", "no")
	// By a clause, and behind going back to a goal ahead of it by a call above.
	wantProofs(t, "co p/1. p(a) :- q(X), p(X). p(b). q(b). q(a).", "p(a).",
		"p0 q.0 by 0 @0+1; p1 0.0 by 2 @1+1; p0 0.1 by 1 @2+1",
		"p0 q.0 by 0 @0+1; p1 0.0 by 3 @1+1; p0 0.1 as 0 @2+1",
		"p0 q.0 by 0 @0+1; p1 0.0 by 3 @1+1; p0 0.1 by 0 @2+1; p1 2.0 by 2 @3+1; p0 2.1 by 1 @4+1",
		"p0 q.0 by 0 @0+1; p1 0.0 by 3 @1+1; p0 0.1 by 0 @2+1; p1 2.0 by 3 @3+1; p0 2.1 as 2 @4+1")
	// By a call above, then by a clause.
	wantProofs(t, "co p/0. p :- p. p.", "p.",
		"p0 q.0 by 0 @0+0; p0 0.0 as 0 @0+0",
		"p0 q.0 by 0 @0+0; p0 0.0 by 0 @0+0; p0 1.0 as 1 @0+0",
		"p0 q.0 by 0 @0+0; p0 0.0 by 0 @0+0; p0 1.0 as 0 @0+0",
		"p0 q.0 by 0 @0+0; p0 0.0 by 0 @0+0; p0 1.0 by 0 @0+0; p0 2.0 as 2 @0+0")
}

// P18.3: calls above: of the same predicate, the nearest first; of others; with inductive ones between; and not those that merely stand ahead.
func TestCallsAbove(t *testing.T) {
	// All that are above, the nearest first.
	wantProofs(t, "co p/1. p(X) :- q(X). q(f(X)) :- p(X). ", "X = f(f(f(X))), p(X).",
		"= q.0 @1+2; p0 q.1 by 0 @3+1; p1 1.0 by 1 @4+1; p0 2.0 as 1 @5+1",
		"= q.0 @1+2; p0 q.1 by 0 @3+1; p1 1.0 by 1 @4+1; p0 2.0 by 0 @5+1; p1 3.0 by 1 @6+1; p0 4.0 as 3 @7+1",
		"= q.0 @1+2; p0 q.1 by 0 @3+1; p1 1.0 by 1 @4+1; p0 2.0 by 0 @5+1; p1 3.0 by 1 @6+1; p0 4.0 as 1 @7+1")
	// Two coinductive predicates: each has those of its own kind above it.
	wantProofs(t, "co p/1. co q/1. p(f(X)) :- q(X). q(g(X)) :- p(X).", "p(X).",
		"p0 q.0 by 0 @1+1; p1 0.0 by 1 @2+1; p0 1.0 as 0 @3+1",
		"p0 q.0 by 0 @1+1; p1 0.0 by 1 @2+1; p0 1.0 by 0 @3+1; p1 2.0 as 1 @4+1",
		"p0 q.0 by 0 @1+1; p1 0.0 by 1 @2+1; p0 1.0 by 0 @3+1; p1 2.0 by 1 @4+1; p0 3.0 as 2 @5+1",
		"p0 q.0 by 0 @1+1; p1 0.0 by 1 @2+1; p0 1.0 by 0 @3+1; p1 2.0 by 1 @4+1; p0 3.0 as 0 @5+1")
	// A call that stands ahead of another one isn't above it, nor is one that was done by a clause of an inductive predicate.
	wantProofs(t, "co p/1. p(a). q(X) :- p(X).", "p(X), p(X), q(X).",
		"p0 q.0 by 0 @1+1; p0 q.1 by 0 @2+1; p1 q.2 by 1 @3+1; p0 2.0 by 0 @4+1", "no")
	// An inductive predicate's call isn't done by one above it, be it the same to the letter.
	wantProofs(t, "q(X) :- r(X), q(X). r(a). q(b).", "q(a).")
	wantFuel(t, asked(t, 50000, "q(X) :- r(X), q(X). r(a). q(b).", "q(a)."), mostFuel, mostFuel)
	// The goals of a clause have the same above them, the second one not the first.
	wantProofs(t, "co p/1. p(X) :- r, p(X), p(X). r.", "p(a).",
		"p0 q.0 by 0 @0+1; p1 0.0 by 1 @1+0; p0 0.1 as 0 @1+1; p0 0.2 as 0 @2+1",
		"p0 q.0 by 0 @0+1; p1 0.0 by 1 @1+0; p0 0.1 as 0 @1+1; p0 0.2 by 0 @2+1; p1 3.0 by 1 @3+0; p0 3.1 as 3 @3+1; p0 3.2 as 3 @4+1")
	// Above it, but of another number of arguments.
	wantProofs(t, "co p/1. co p/2. p(X) :- p(X, X). p(X, Y) :- p(X).", "p(a).",
		"p0 q.0 by 0 @0+1; p1 0.0 by 1 @1+2; p0 1.0 as 0 @3+1",
		"p0 q.0 by 0 @0+1; p1 0.0 by 1 @1+2; p0 1.0 by 0 @3+1; p1 2.0 as 1 @4+2")
	// What is told with a call above gives the variables of both.
	m := asked(t, 1000, "co p/2. p(X, Y) :- p(Y, Z).", "p(a, X).")
	wantNext(t, m, 10, true, 2)
	if a := answer(t, m); vars(a) != "a" || proofs(a) != "p0 q.0 by 0 @1+2; p0 0.0 as 0 @3+2" {
		t.Error(vars(a), proofs(a))
	}
}

// P18.3: an answer's graph: its roots are the query's variables, the open disequalities, a pair's first ahead of its second, and the arguments; it is the least one.
func TestAnswersGraph(t *testing.T) {
	m := asked(t, 1000, "p(f(X), Y) :- dif(Y, X).", "p(Z, A), dif(a, B), A = g(A).")
	wantNext(t, m, 10, true, 4)
	a := answer(t, m)
	if !slices.Equal(a.Vars, []string{"Z", "A", "B"}) || a.Difs != 2 || vars(a) != "E1, E2, V2, E2, V1, a, V2 where E1 = f(V1), E2 = g(E2)" {
		t.Error(a.Vars, a.Difs, vars(a))
	}
	want := api.Graph{Nodes: []api.Node{
		{Kind: kComp, Name: "f", Args: []int{1}}, {Kind: kVar}, {Kind: kComp, Name: "g", Args: []int{2}}, {Kind: kVar}, {Kind: kAtom, Name: "a"},
	}, Roots: []int{0, 2, 3, 2, 1, 4, 3, 0, 2, 4, 3, 2, 2, 2, 1}}
	if telling(a.Graph) != telling(want) {
		t.Errorf("%s, want %s", telling(a.Graph), telling(want))
	}
}
