package machine_test

import (
	"slices"
	"strconv"
	"testing"

	"tendril/machine"
)

// top is how many words are allocated.
func top(m *machine.Machine) int { return len(m.Dump().Words) }

// wantHeap stops the test unless Next answers ErrHeap of so many words, with so many attempts made, again and again.
func wantHeap(t *testing.T, m *machine.Machine, budget, words, used int) {
	t.Helper()
	for range 3 {
		ok, err := m.Next(budget)
		if ok || !isFault(err, errHeap, words, errRoom, words, errFull, words) || m.Used() != used {
			t.Fatalf("%v, %v with %d attempts, want ErrHeap of %d with %d", ok, err, m.Used(), words, used)
		}
	}
}

// P18.1, P18.4: the query's graph wants just so many words: in a store with one less there is no room for it.
func TestRoomForAQuery(t *testing.T) {
	x := compiled("p(X, f(X)).")
	for _, c := range []struct {
		query string
		words int
	}{
		{"p(X, X).", 4}, {"p(X, Y).", 6}, {"p(X, f(Y)).", 8}, {"X = f(X).", 6}, {"a = b.", 2}, {"p(A, B), p(B, f(A, a)).", 11}, {"dif(1, 2), p(a, b).", 4},
	} {
		r, names := query(x, c.query)
		if words(r.Graph) != c.words {
			t.Fatal(c.query, words(r.Graph))
		}
		for size := 1; size <= c.words+1; size++ {
			m := made(t, x, size)
			err := m.Ask(r, names)
			if size >= c.words {
				if err != nil || top(m) != c.words {
					t.Fatal(c.query, size, err)
				}
				continue
			}
			if !isFault(err, errHeap, c.words, errRoom, c.words, errFull, c.words) {
				t.Fatal(c.query, size, err)
			}
			wantNoQuery(t, m)
		}
	}
	// No words are wanted for no terms.
	m := made(t, compiled("z."), 1)
	ask(t, m, compiled("z."), "z, z.")
	wantNext(t, m, 5, true, 2)
}

// P18.1: words that aren't wanted are taken out only when there is no more room, and when Compact is called.
func TestNothingElseCompacts(t *testing.T) {
	p := "l(X) :- l(X)."
	m := asked(t, 60, p, "l(a).")
	// The query wants 1, the clause 3: of these the head's cell isn't wanted behind it.
	for used := 1; used <= 19; used++ {
		wantFuel(t, m, 1, used)
		if top(m) != 1+3*used {
			t.Fatal(used, top(m))
		}
	}
	// 58 are taken: of these 1 and 19 times 2 stay.
	wantFuel(t, m, 1, 20)
	if top(m) != 39+3 {
		t.Error(top(m))
	}
	if n, err := m.Compact(); n != 41 || err != nil || top(m) != 41 {
		t.Error(n, err, top(m))
	}
	wantFuel(t, m, 6, 26)
	if top(m) != 59 {
		t.Error(top(m))
	}
	wantFuel(t, m, 1, 27)
	if top(m) != 53+3 {
		t.Error(top(m))
	}
	// Behind 28 attempts 57 are wanted.
	wantFuel(t, m, 1, 28)
	wantFuel(t, m, 1, 29)
	wantHeap(t, m, 1, 3, 29)
	wantHeap(t, m, 100, 3, 29)
	if n, err := m.Compact(); n != 59 || err != nil {
		t.Error(n, err)
	}
	wantHeap(t, m, 1, 3, 29)
}

// P18.1: what is given up by going back is given back, or is not wanted.
func TestGivenUp(t *testing.T) {
	m := asked(t, 1000, "p(f(a, a)). p(f(b, b)). p(c).", "p(X).")
	// The query's two cells and the variable, and what the variable holds: a functor with its arguments, or nothing beside.
	for i, want := range []int{3 + 3, 3 + 3, 3} {
		wantNext(t, m, 1, true, i+1)
		if n, err := m.Compact(); err != nil || n != want {
			t.Error(i, n, err)
		}
	}
	// In a store that has room for one of them, but not for two.
	for size := 1; size < 12; size++ {
		m := made(t, compiled("p(f(a, a)). p(f(b, b)). p(c)."), size)
		r, names := query(compiled("p(f(a, a)). p(f(b, b)). p(c)."), "p(X).")
		err := m.Ask(r, names)
		if size < 3 {
			if err == nil {
				t.Error(size)
			}
			continue
		}
		if size < 7 {
			wantHeap(t, m, 1, 4, 0)
			continue
		}
		for used := range 3 {
			wantNext(t, m, 1, true, used+1)
		}
		wantNext(t, m, 1, false, 3)
	}
}

// P18.4: what was ahead of an attempt is wanted behind it as long as its goal has an alternative left, and no longer.
func TestNoAlternativeLeft(t *testing.T) {
	// Four cells of the query, two variables, and two compounds with two arguments; of the one that is forwarded the arguments are wanted only for going back.
	for _, x := range []struct {
		program string
		words   []int
	}{
		{"e(X, X).", []int{10}},
		{"e(X, X). e(X, X).", []int{12, 10}},
		{"e(X, X). e(X, Y).", []int{12, 12}},
		{"e(X, Y). e(X, X).", []int{12, 10}},
		{"e(X, X). e(a, X). e(g(X), b).", []int{10}},
	} {
		m := asked(t, 100, x.program, "e(f(A,b), f(a,B)).")
		for i, want := range x.words {
			if ok, err := m.Next(9); !ok || err != nil {
				t.Fatal(x.program, ok, err)
			}
			if n, err := m.Compact(); n != want || err != nil {
				t.Error(x.program, i, n, err)
			}
		}
	}
}

// P18.2, P18.4: where there is no room, the answers ahead of that are the same; and so they are when Compact is called ahead of a call, whichever one.
func TestCompactOnce(t *testing.T) {
	for _, x := range []example{
		{program: "co s/1. s([H|T]) :- s(T).", query: "X = [0,1|X], s(X)."},
		{program: whole, query: "member(X, [f(Y),Y,g(Z)]), dif(X, Z)."},
		{program: "app([], L, L). app([H|T], L, [H|R]) :- app(T, L, R).", query: "app(X, Y, [a,f(b)])."},
		{program: "p(a). p(X) :- dif(X, b). p(f(X)).", query: "p(X), dif(X, f(Y)), p(Y)."},
	} {
		s := scriptOf(x.program, x.query, 16)
		for at := range 24 {
			for _, budgets := range [][]int{{1}, {2, 1}, {16}} {
				call := 0
				once := func(p *player) {
					if call == at {
						p.compact()
					}
					call++
				}
				if !s.play(t, s.ample(), budgets, once) {
					t.Fatal(x)
				}
			}
		}
		for size := 1; size < 60; size++ {
			s.play(t, size, []int{1}, nothing)
			s.play(t, size, []int{3, 1}, nothing)
		}
	}
}

// P18.4: as long as the words of the query and of so many of the greatest rule are at most the size, there is no ErrHeap.
func TestThereIsRoom(t *testing.T) {
	for _, x := range []example{
		{program: "l(X) :- l(X).", query: "l(a)."},
		{program: "n(0). n(s(N)) :- n(N). z(a, f(b, c, d)).", query: "n(X), z(X, Y)."},
		{program: "co s/1. s([H|T]) :- s(T), s(T).", query: "X = [0|X], s(X)."},
	} {
		for attempts := 1; attempts < 25; attempts++ {
			s := scriptOf(x.program, x.query, attempts)
			for size := s.ample(); size < s.ample()+3; size++ {
				if !s.play(t, size, []int{attempts}, nothing) || !s.play(t, size, []int{1}, nothing) {
					t.Fatalf("%s: no room for %d attempts in %d words", s.text, attempts, size)
				}
			}
		}
	}
}

// P18.4: ErrHeap costs nothing, and the next Next goes on with the attempt: it is refused again, and no other alternative is taken in its stead.
func TestNoRoomForAnAttempt(t *testing.T) {
	// The first clause has no room, the second one would have.
	x := compiled("p(f(a, b, c)). p(a).")
	m := made(t, x, 5)
	ask(t, m, x, "p(X).")
	wantHeap(t, m, 1, 5, 0)
	wantHeap(t, m, mostFuel, 5, 0)
	wantNone(t, m, errNoMore)
	if roots := m.Roots(); len(roots) != 2 || top(m) != 3 {
		t.Error(roots, top(m))
	}
	// The other way round: an answer, and then no room.
	x = compiled("p(a). p(f(a, b, c)). p(b).")
	m = made(t, x, 5)
	ask(t, m, x, "p(X).")
	wantNext(t, m, 1, true, 1)
	a := answer(t, m)
	if vars(a) != "a" {
		t.Error(vars(a))
	}
	wantHeap(t, m, 1, 5, 1)
	wantNone(t, m, errNoMore)
	// Fuel is asked for first.
	x = compiled("z. p(f(a, b, c)).")
	m = made(t, x, 5)
	ask(t, m, x, "z, p(X).")
	wantFuel(t, m, 1, 1)
	wantHeap(t, m, 1, 5, 1)
	m = made(t, x, 5)
	ask(t, m, x, "z, p(X).")
	wantHeap(t, m, 2, 5, 1)
}

// P18.1: the roots are the cells of the variables, and then those of each goal's arguments; they hold what the answer says.
func TestRoots(t *testing.T) {
	x := compiled("p(X, Y) :- q(Y), dif(X, Y). q(f(Z)). z.")
	m := made(t, x, 100)
	if roots := m.Roots(); roots != nil {
		t.Error(roots)
	}
	ask(t, m, x, "z, p(A, B), A = g(A).")
	for i, want := range []int{2 + 4, 2 + 4, 2 + 4 + 3, 2 + 4 + 3, 2 + 4 + 3} {
		if roots := m.Roots(); len(roots) != want {
			t.Error(i, roots)
		}
		if i < 4 {
			wantFuel(t, m, 1, i+1)
		}
	}
	wantNext(t, m, 1, true, 5)
	d := laidOpen{m.Dump()}
	a := answer(t, m)
	if got := d.graph(m.Roots()); telling(got) != telling(a.Graph) || a.Difs != 0 {
		t.Errorf("%s, want %s", telling(got), telling(a.Graph))
	}
	// They stand in their order, also behind a compaction.
	before := m.Roots()
	if n, err := m.Compact(); err != nil || n >= len(d.Words) {
		t.Error(n, err)
	}
	after := m.Roots()
	if got := (laidOpen{m.Dump()}).graph(after); telling(got) != telling(a.Graph) || len(after) != len(before) {
		t.Error(after)
	}
	for i := range before {
		for k := range i {
			if (before[i] < before[k]) != (after[i] < after[k]) {
				t.Error("the order of the words has changed: " + strconv.Itoa(i))
			}
		}
	}
}

// P18.1: Compact at the beginning, between attempts, at an answer and at the end; a second one takes nothing out.
func TestCompact(t *testing.T) {
	m := asked(t, 1000, "p(X, f(Y)) :- q(X, Y). q(a, b). q(Z, c). p(X, Y).", "p(A, B).")
	check := func() {
		t.Helper()
		want := laidOpen{m.Dump()}.wanted(m.Roots())
		n, err := m.Compact()
		if err != nil || n != want || n != top(m) {
			t.Fatal(n, err, want)
		}
		words := m.Dump().Words
		again, err := m.Compact()
		if err != nil || again != n || !slices.Equal(m.Dump().Words, words) {
			t.Fatal(again, err)
		}
	}
	check()
	wantFuel(t, m, 1, 1)
	check()
	wantNext(t, m, 1, true, 2)
	check()
	if a := answer(t, m); vars(a) != "a, E1 where E1 = f(b)" {
		t.Error(vars(a))
	}
	wantNext(t, m, 1, true, 3)
	check()
	if a := answer(t, m); vars(a) != "V1, E1 where E1 = f(c)" {
		t.Error(vars(a))
	}
	wantNext(t, m, 1, true, 4)
	check()
	if a := answer(t, m); vars(a) != "V1, V2" {
		t.Error(vars(a))
	}
	wantNext(t, m, 1, false, 4)
	check()
	wantNext(t, m, 1, false, 4)
}
