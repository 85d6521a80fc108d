package machine_test

import (
	"math"
	"testing"
)

// cuts is all ways in which so many attempts are cut into budgets.
func cuts(attempts int) [][]int {
	if attempts == 0 {
		return [][]int{nil}
	}
	var out [][]int
	for first := 1; first <= attempts; first++ {
		for _, rest := range cuts(attempts - first) {
			out = append(out, append([]int{first}, rest...))
		}
	}
	return out
}

// P18.2: every cut of a row of attempts into budgets gives the same answers, with a compaction ahead of each call and without; ErrFuel comes just where an attempt is to be made and none is left.
func TestEveryCut(t *testing.T) {
	for _, x := range []example{
		{program: "p(a). p(b). q(b). q(a).", query: "p(X), q(X), dif(X, a)."},
		{program: "co s/1. s([H|T]) :- s(T).", query: "X = [0|X], s(X)."},
		{program: whole, query: "member(X, [a,b])."},
		{program: "p(X) :- q(X), r. q(a). q(b). q(c). r.", query: "p(X)."},
		{program: "p(a) :- r. p(b) :- p(c). p(X) :- q. q :- r.  q. r. r :- p(d).", query: "p(X)."},
		{program: "co p/0. co c/0. p :- c. p :- p. p.", query: "p, c."},
	} {
		s := scriptOf(x.program, x.query, 9)
		for _, budgets := range cuts(9) {
			s.play(t, s.ample(), budgets, nothing)
			s.play(t, s.ample(), budgets, (*player).compact)
		}
	}
}

// P18.2: a budget below 1 counts as 1, one above the greatest as that.
func TestBudgets(t *testing.T) {
	m := asked(t, 1, "l :- l.", "l.")
	used := 0
	for _, x := range []struct{ budget, counts int }{
		{1, 1}, {0, 1}, {-1, 1}, {math.MinInt, 1}, {2, 2}, {7, 7}, {mostFuel - 1, mostFuel - 1}, {mostFuel, mostFuel},
		{mostFuel + 1, mostFuel}, {math.MaxInt, mostFuel}, {1 << 32, mostFuel}, {-1 << 32, 1}, {0, 1},
	} {
		used += x.counts
		wantFuel(t, m, x.budget, used)
	}
}

// P18.1, P18.2: where no attempt is to be made, the smallest budget is enough; behind the last one it is enough, too.
func TestNoFuelIsAskedFor(t *testing.T) {
	for _, x := range []struct {
		program, query string
		attempts       int
		answers        bool
	}{
		{"", "", 0, true},
		{"co c/0.", "c.", 0, false},
		{"p(a).", "p(b).", 0, false},
		{"p(a).", "p(X).", 1, true},
		{"p(a).", "p(a).", 1, true},
		{"p(X, a).", "p(X, b).", 1, false},
		{"p(a).", "p(X), p(b).", 1, false},
		{"p :- q, c. co c/0. q.", "p.", 2, false},
		{"", "a = b.", 1, false},
		{"", "dif(a, a).", 1, false},
	} {
		for budget := x.attempts; budget <= x.attempts+2; budget++ {
			m := asked(t, 100, x.program, x.query)
			if x.answers {
				wantNext(t, m, budget, true, x.attempts)
			}
			for range 3 {
				wantNext(t, m, budget, false, x.attempts)
			}
		}
		m := asked(t, 100, x.program, x.query)
		for used := 1; used < x.attempts; used++ {
			wantFuel(t, m, 1, used)
		}
		wantNext(t, m, 1, x.answers, x.attempts)
	}
	// With alternatives left behind the last answer there is something to be done still.
	m := asked(t, 100, "p(a, a). p(b, b). p(X, c).", "p(X, a).")
	wantNext(t, m, 1, true, 1)
	wantFuel(t, m, 1, 2)
	wantNext(t, m, 1, false, 3)
	wantNext(t, m, 5, false, 3)
}

// P18.2: a budget that is left when an answer comes is not kept for the next one.
func TestBudgetsArentKept(t *testing.T) {
	m := asked(t, 1000, "n(0). n(s(N)) :- n(N).", "n(X).")
	wantNext(t, m, 100, true, 1)
	wantFuel(t, m, 1, 2)
	wantNext(t, m, 2, true, 3)
	wantFuel(t, m, 1, 4)
	wantNext(t, m, 100, true, 5)
	wantNext(t, m, 2, true, 7)
}

// P18.1: Used counts from the last query that was taken on.
func TestUsed(t *testing.T) {
	x := compiled("n(0). n(s(N)) :- n(N).")
	m := made(t, x, 1000)
	if m.Used() != 0 {
		t.Error(m.Used())
	}
	ask(t, m, x, "n(X).")
	if m.Used() != 0 {
		t.Error(m.Used())
	}
	wantNext(t, m, 1, true, 1)
	wantNext(t, m, 2, true, 3)
	if _, err := m.Compact(); err != nil || m.Used() != 3 {
		t.Error(err, m.Used())
	}
	ask(t, m, x, "X = a, n(X).")
	if m.Used() != 0 {
		t.Error(m.Used())
	}
	wantNext(t, m, 2, false, 1)
	r, names := query(x, "n(Y).")
	r.Pred = 0
	if err := m.Ask(r, names); err == nil || m.Used() != 0 {
		t.Error(err, m.Used())
	}
}
