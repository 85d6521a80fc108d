package machine_test

import (
	"runtime"
	"strconv"
	"strings"
	"testing"
	"time"

	"tendril/api"
)

// quick stops the test if something takes far longer than it should.
func quick(t *testing.T, what string, most time.Duration, do func()) {
	t.Helper()
	begin := time.Now()
	do()
	if took := time.Since(begin); took > most {
		t.Errorf("%s took %v", what, took)
	}
}

// repeated is a text so often, with a , between each two.
func repeated(text string, count int) string {
	return strings.Join(strings.Split(strings.Repeat(text+";", count), ";")[:count], ", ")
}

// difsTo is goals that keep X apart from these numbers.
func difsTo(first, count int) string {
	var out []string
	for i := range count {
		out = append(out, "dif(X, "+strconv.Itoa(first+i)+")")
	}
	return strings.Join(out, ", ")
}

// P18.1: ErrDifs: as many disequalities as may be open, and one more, which isn't made and costs nothing, however often it is tried; those that aren't open are made still.
func TestManyDisequalities(t *testing.T) {
	program := "b(X) :- b0(X), b1(X), b2(X), b3(X), b4(X), b5(X), b6(X), b7(X). dif7(X, Y) :- dif(X, Y). dif7(X, Y)."
	for i := range 8 {
		program += " b" + strconv.Itoa(i) + "(X) :- " + difsTo(32*i, 32) + "."
	}
	// One attempt for b and for each of its goals, and 256.
	full := 1 + 8 + mostDifs
	m := asked(t, 20000, program, "b(X), dif(a, b), dif(7, f(X)), dif(X, last).")
	for range 3 {
		if ok, err := m.Next(mostFuel); ok || !isFault(err, errDifs, mostDifs) || m.Used() != full+2 {
			t.Fatal(ok, err, m.Used())
		}
		wantNone(t, m, errNoMore)
		if n := len(m.Dump().Difs); n != mostDifs {
			t.Fatal(n)
		}
		if _, err := m.Compact(); err != nil {
			t.Fatal(err)
		}
	}
	// Fuel is asked for first.
	m = asked(t, 20000, program, "b(X), dif(X, last).")
	wantFuel(t, m, full, full)
	if ok, err := m.Next(1); ok || !isFault(err, errDifs, mostDifs) || m.Used() != full {
		t.Fatal(ok, err, m.Used())
	}
	// With one less there is room for it; and what is no longer open makes room.
	m = asked(t, 20000, program, "b0(X), b1(X), b2(X), b3(X), b4(X), b5(X), b6(X), "+difsTo(300, 15)+", dif(X, Y), "+difsTo(400, 8)+".")
	wantNext(t, m, mostFuel, true, 7+7*32+15+1+8)
	m = asked(t, 20000, program, "b(X), X = 1000, dif(Y, last), dif(X, Y).")
	wantNext(t, m, mostFuel, true, full+3)
	if a := answer(t, m); vars(a) != "1000, V1, V1, last, 1000, V1" {
		t.Error(vars(a))
	}
	m = asked(t, 20000, program, "b(X), X = 1000, b(Y), dif(Z, U).")
	if ok, err := m.Next(mostFuel); ok || !isFault(err, errDifs, mostDifs) || m.Used() != 2*full+1 {
		t.Fatal(ok, err, m.Used())
	}
	// A call with an alternative left: the attempt isn't given up for it.
	m = asked(t, 20000, program, "b(X), dif7(X, last).")
	for range 2 {
		if ok, err := m.Next(mostFuel); ok || !isFault(err, errDifs, mostDifs) || m.Used() != full+1 {
			t.Fatal(ok, err, m.Used())
		}
	}
	// A query may be asked behind it.
	x := compiled("p.")
	m = made(t, x, 100)
	ask(t, m, x, "p.")
	wantNext(t, m, 1, true, 1)
}

// P18.1: the plays with too many disequalities: whatever the budgets are, and whenever there are compactions.
func TestManyDisequalitiesPlayed(t *testing.T) {
	program := "b(X, X). b(X, Y) :- b0(X), b1(X), b2(X), b3(X), b4(X), b5(X), b6(X), b7(X), dif(X, Y)."
	for i := range 8 {
		program += " b" + strconv.Itoa(i) + "(X) :- " + difsTo(32*i, 32) + "."
	}
	s := scriptOf(program, "b(X, Y).", 400)
	if n := len(s.events); n != 2 || s.events[1].kind != isTooManyDifs || s.events[1].used != 2+8+mostDifs {
		t.Fatal(s.events)
	}
	s.play(t, s.ample(), []int{400}, nothing)
	s.play(t, s.ample(), []int{33, 20}, (*player).compact)
}

// P18.1: ErrAnswer: as many roots as there may be, and one more; the next Next goes on.
func TestManyRoots(t *testing.T) {
	// Each q has 32 goals of 8 arguments.
	program := "q :- " + repeated("r(1,2,3,4,5,6,7,8)", 32) + ". r(1,2,3,4,5,6,7,8). z(a). z(b). e."
	m := asked(t, mostWords, program, repeated("q", 16)+".")
	wantNext(t, m, mostFuel, true, 16+512)
	if a := answer(t, m); len(a.Graph.Roots) != 4096 || len(a.Graph.Nodes) != 8 || len(a.Proofs) != 16+512 {
		t.Error(len(a.Graph.Roots))
	}
	wantNext(t, m, mostFuel, false, 16+512)
	m = asked(t, mostWords, program, repeated("q", 16)+", z(a).")
	wantNext(t, m, mostFuel, true, 16+512+1)
	for range 2 {
		if a, err := m.Answer(); !isFault(err, errAnswer, -1, errLarge, 4097) || !isZero(a) {
			t.Error(err)
		}
	}
	wantNext(t, m, mostFuel, false, 16+512+1)
	wantNone(t, m, errNoMore)
	// Variables and disequalities are roots, too; and behind an answer that can't be told others may be.
	m = asked(t, mostWords, "p(a) :- "+repeated("q", 16)+". p(b). p(c) :- "+repeated("q", 15)+", "+repeated("r(1,2,3,4,5,6,7,8)", 16)+". "+program, "p(X).")
	wantNext(t, m, mostFuel, true, 1+16+512)
	if a, err := m.Answer(); !isFault(err, errAnswer, -1, errLarge, 4098) || !isZero(a) {
		t.Error(err)
	}
	if n, err := m.Compact(); err != nil || n < 4098 {
		t.Error(n, err)
	}
	if _, err := m.Answer(); !isFault(err, errAnswer, -1, errLarge, 4098) {
		t.Error(err)
	}
	wantNext(t, m, mostFuel, true, 1+16+512+1)
	if a := answer(t, m); vars(a) != "b" {
		t.Error(vars(a))
	}
	wantNext(t, m, mostFuel, true, 1+16+512+1+1+15+480+16)
	if a := answer(t, m); vars(a) != "c" || len(a.Graph.Roots) != 2+3840+128 {
		t.Error(vars(a), len(a.Graph.Roots))
	}
	m = asked(t, mostWords, program, repeated("q", 15)+", "+repeated("r(1,2,3,4,5,6,7,8)", 16)+", e.")
	wantNext(t, m, mostFuel, true, 15+480+16+1)
	answer(t, m)
}

// listOf is a list of so many variables.
func listOf(count int) string {
	var out []string
	for i := range count {
		out = append(out, "A"+strconv.Itoa(i))
	}
	return "[" + strings.Join(out, ",") + "]"
}

// P18.1: ErrAnswer: as many nodes as there may be, and one more.
func TestManyNodes(t *testing.T) {
	// A list of n variables has n parts, n variables, and the end.
	program := "p(" + listOf(1023) + "). q(" + listOf(1024) + "). q(a)."
	m := asked(t, mostWords, program, "p(X), p(Y), Z = a, U = b.")
	wantNext(t, m, 9, true, 4)
	if a := answer(t, m); len(a.Graph.Nodes) != 4*1023+1+2 {
		t.Error(len(a.Graph.Nodes))
	}
	m = asked(t, mostWords, program, "p(X), p(Y), Z = a, U = b, V = c, W = d.")
	wantNext(t, m, 9, true, 6)
	if a, err := m.Answer(); !isFault(err, errAnswer, -1, errLarge, 4097) || !isZero(a) {
		t.Error(err)
	}
	m = asked(t, mostWords, program, "q(X), q(Y).")
	wantNext(t, m, 9, true, 2)
	if a, err := m.Answer(); !isFault(err, errAnswer, -1, errLarge, 4097) || !isZero(a) {
		t.Error(err)
	}
	wantNext(t, m, 9, true, 3)
	if a := answer(t, m); len(a.Graph.Nodes) != 2050 {
		t.Error(len(a.Graph.Nodes))
	}
	wantNext(t, m, 9, true, 5)
	wantNext(t, m, 9, true, 6)
	if a := answer(t, m); vars(a) != "a, a" {
		t.Error(vars(a))
	}
	wantNext(t, m, 9, false, 6)
}

// P18.1: rows of many thousands of attempts, deep and flat, each in the time that it needs.
func TestLongRows(t *testing.T) {
	quick(t, "a deep row of calls without arguments", 60*time.Second, func() {
		m := asked(t, 1, "co p/0. p :- p. q :- q.", "q.")
		for i := range 30 {
			wantFuel(t, m, mostFuel, (i+1)*mostFuel)
		}
		m = asked(t, 1, "co p/0. p :- p. q :- q.", "p.")
		used := 1
		for range 3000 {
			used++
			wantNext(t, m, mostFuel, true, used)
			// The call is tried with each call above it, and then the clause is taken.
			a := answer(t, m)
			last := a.Proofs[len(a.Proofs)-1]
			if last.Hyp < 0 {
				t.Fatal(last)
			}
			if last.Hyp == 0 {
				used++
			}
		}
	})
	quick(t, "a deep row of calls", 60*time.Second, func() {
		m := asked(t, mostWords, "l(X) :- l(X).", "l(a).")
		wantFuel(t, m, mostFuel, mostFuel)
		wantFuel(t, m, mostFuel, 2*mostFuel)
		wantFuel(t, m, mostFuel, 3*mostFuel)
		if ok, err := m.Next(mostFuel); ok || !isFault(err, errHeap, 3, errRoom, 3, errFull, 3) || m.Used() < mostWords/2-3 {
			t.Error(ok, err, m.Used())
		}
	})
	quick(t, "many answers", 60*time.Second, func() {
		m := asked(t, 1000, "d(0). d(1). d(2). d(3). d(4). d(5). d(6). d(7). d(8). d(9).", "d(A), d(B), d(C), d(D).")
		used := 3
		for i := range 10000 {
			used++
			for _, n := range []int{10, 100, 1000} {
				if i%n == 0 && i > 0 {
					used++
				}
			}
			wantNext(t, m, 4, true, used)
		}
		wantNext(t, m, 1, false, used)
	})
}

// manyRules is a code with as many rules as may be, each with many nodes: p/1 has a clause for each number, with a long list in its body.
func manyRules(nodes int) api.Code {
	x := api.Code{Preds: []api.Pred{{Name: "p", Arity: 1}, {Name: "q", Arity: 1}, {Name: "l", Arity: 1}}}
	for i := range 250 {
		g := api.Graph{Nodes: []api.Node{{Kind: kInt, Num: i}}, Roots: []int{0, 1}}
		for n := 1; n < nodes; n++ {
			g.Nodes = append(g.Nodes, api.Node{Kind: kComp, Name: "f", Args: []int{n + 1}})
		}
		g.Nodes = append(g.Nodes, api.Node{Kind: kVar})
		x.Preds[0].Clauses = append(x.Preds[0].Clauses, i)
		x.Rules = append(x.Rules, api.Rule{Pred: 0, Goals: []api.Step{{Kind: call, Pred: 1}}, Graph: g})
	}
	one := api.Graph{Nodes: []api.Node{{Kind: kVar}}, Roots: []int{0, 0}}
	x.Preds[1].Clauses = []int{250}
	x.Rules = append(x.Rules, api.Rule{Pred: 1, Graph: api.Graph{Nodes: one.Nodes, Roots: []int{0}}})
	x.Preds[2].Clauses = []int{251}
	x.Rules = append(x.Rules, api.Rule{Pred: 2, Goals: []api.Step{{Kind: call, Pred: 2}}, Graph: one})
	return x
}

// P18.1: attempts of small clauses take no longer in a great program.
func TestGreatProgram(t *testing.T) {
	x := manyRules(4000)
	m := made(t, x, mostWords)
	quick(t, "10000 attempts of a small clause", 30*time.Second, func() {
		ask(t, m, x, "l(a).")
		wantFuel(t, m, mostFuel, mostFuel)
	})
	quick(t, "all of the great clauses", 30*time.Second, func() {
		ask(t, m, x, "p(X).")
		for i := range 250 {
			wantNext(t, m, 2, true, 2*(i+1))
			if a := answer(t, m); vars(a) != strconv.Itoa(i) || len(a.Graph.Nodes) != 4001 {
				t.Fatal(vars(a))
			}
		}
		wantNext(t, m, 1, false, 500)
	})
	ask(t, m, x, "p(77).")
	wantNext(t, m, 2, true, 2)
	wantNext(t, m, 1, false, 2)
}

// held is how many bytes are in use when all that nobody holds any more is given back.
func held() uint64 {
	var m runtime.MemStats
	runtime.GC()
	runtime.ReadMemStats(&m)
	return m.HeapAlloc
}

// What is given up by going back isn't held.
func TestGivenUpIsntHeld(t *testing.T) {
	m := asked(t, 1000, "w :- l, c. w :- w. l :- p, p, p, p, p, p. p. p. p. p. co c/0.", "w.")
	round := func() {
		for range 30 {
			if ok, err := m.Next(mostFuel); ok || err == nil {
				t.Fatal(ok, err)
			}
		}
	}
	round()
	before := held()
	round()
	if after := held(); after > before+1<<20 {
		t.Errorf("%d bytes more are held", after-before)
	}
	runtime.KeepAlive(m)
	// Nor are queries that are gone.
	x := compiled("l(X) :- l(X).")
	m = made(t, x, mostWords)
	for range 3 {
		ask(t, m, x, "l(a).")
		wantFuel(t, m, mostFuel, mostFuel)
	}
	m.Ask(api.Rule{}, nil)
	before = held()
	for range 20 {
		ask(t, m, x, "l(a).")
		wantFuel(t, m, mostFuel, mostFuel)
		m.Ask(api.Rule{}, nil)
	}
	if after := held(); after > before+1<<20 {
		t.Errorf("%d bytes more are held", after-before)
	}
	runtime.KeepAlive(m)
}
