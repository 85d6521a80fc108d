package machine_test

import (
	"errors"
	"math"
	"slices"
	"strconv"
	"strings"
	"testing"

	"tendril/api"
	"tendril/machine"
)

// wantNotMade stops the test unless New refuses a code as one that isn't good, whatever the size is.
func wantNotMade(t *testing.T, how string, x api.Code) {
	t.Helper()
	for _, size := range []int{100, 0, -1, mostWords, mostWords + 1} {
		m, err := machine.New(x, size)
		if m != nil || !isFault(err, errCode, -1, errTemplate, -1) || !errors.Is(err, api.Errno(errTemplate)) {
			t.Fatalf("%s: %v, %v", how, m, err)
		}
	}
}

// P18.1: New: codes that aren't good, by each of the reasons.
func TestBadCodes(t *testing.T) {
	for _, x := range []struct {
		how   string
		spoil func(x *api.Code)
	}{
		{"too many predicates", func(x *api.Code) {
			for i := range 127 {
				x.Preds = append(x.Preds, api.Pred{Name: "n" + strconv.Itoa(i)})
			}
		}},
		{"too many rules", func(x *api.Code) {
			for len(x.Rules) <= 256 {
				x.Preds[1].Clauses = append(x.Preds[1].Clauses, len(x.Rules))
				x.Rules = append(x.Rules, api.Rule{Pred: 1})
			}
		}},
		{"no name", func(x *api.Code) { x.Preds[0].Name = "a b" }},
		{"arity", func(x *api.Code) { x.Preds[0].Arity = 9 }},
		{"arity", func(x *api.Code) { x.Preds[0].Arity = -1 }},
		{"twice", func(x *api.Code) { x.Preds = append(x.Preds, api.Pred{Name: "p", Arity: 1}) }},
		{"dif", func(x *api.Code) { x.Preds = append(x.Preds, api.Pred{Name: "dif", Arity: 2}) }},
		{"rule", func(x *api.Code) { x.Rules[0].Pred = -1 }},
		{"rule", func(x *api.Code) { x.Rules[0].Pred = 2 }},
		{"clauses", func(x *api.Code) { x.Preds[0].Clauses = nil }},
		{"clauses", func(x *api.Code) { x.Preds[0].Clauses = []int{0, 0} }},
		{"clauses", func(x *api.Code) { x.Preds[0].Clauses = []int{1, 0} }},
		{"goals", func(x *api.Code) { x.Rules[1].Goals = make([]api.Step, 33) }},
		{"goal", func(x *api.Code) { x.Rules[0].Goals[0].Kind = 0 }},
		{"goal", func(x *api.Code) { x.Rules[0].Goals[0].Pred = 2 }},
		{"goal", func(x *api.Code) { x.Rules[0].Goals[1].Pred = 0 }},
		{"roots", func(x *api.Code) { x.Rules[0].Graph.Roots = x.Rules[0].Graph.Roots[1:] }},
		{"graph", func(x *api.Code) { x.Rules[0].Graph.Roots[0] = -1 }},
		{"graph", func(x *api.Code) { x.Rules[0].Graph.Nodes[0].Num = 1 }},
	} {
		code := compiled("p(X) :- q, X = a, p(f(X)). q.")
		if _, err := machine.New(code, 100); err != nil {
			t.Fatal(err)
		}
		x.spoil(&code)
		wantNotMade(t, x.how, code)
	}
}

// P18.1: New: sizes that no store has.
func TestBadSizes(t *testing.T) {
	for _, size := range []int{0, -1, mostWords + 1, math.MinInt, math.MaxInt} {
		m, err := machine.New(compiled("p."), size)
		if m != nil || !isFault(err, errNew, size, errMax, size) {
			t.Error(m, err)
		}
	}
	for _, size := range []int{1, 2, mostWords - 1, mostWords} {
		wantNoQuery(t, made(t, compiled("p."), size))
	}
}

// atoms is a list of so many atoms, which have the numbers from first on in their names.
func atoms(first, count int) string {
	var out []string
	for i := range count {
		out = append(out, "n"+strconv.Itoa(first+i))
	}
	return "[" + strings.Join(out, ",") + "]"
}

// isNoRoomForAName tells whether an error says that there is no room for a name.
func isNoRoomForAName(err error, name string) bool {
	f, ok := err.(*api.Fault)
	if !ok || f == nil || f.Code != errCode || f.At != -1 || f.Name != "" {
		return false
	}
	cause, ok := f.Cause.(*api.Fault)
	return ok && cause != nil && *cause == api.Fault{Code: errNames, At: -1, Name: name}
}

// P18.1: New: as many names as there may be, and one more; names count once, in all rules together. The list has two names more: . and [].
func TestManyNames(t *testing.T) {
	for _, x := range []struct{ program, missing string }{
		{"p(" + atoms(0, 1022) + ").", ""},
		{"p(" + atoms(0, 1023) + ").", "[]"},
		{"p(" + atoms(0, 1024) + ").", "n1023"},
		{"p(" + atoms(0, 1000) + "). p(" + atoms(0, 1022) + ").", ""},
		{"p(" + atoms(0, 1000) + "). p(" + atoms(500, 522) + ").", ""},
		{"p(" + atoms(0, 1000) + "). p(" + atoms(500, 524) + ").", "n1022"},
		{"p(" + atoms(0, 1000) + "). p(" + atoms(1000, 22) + "). p(a).", "a"},
		{"p(" + atoms(0, 1000) + "). p(" + atoms(1000, 22) + "). p(X) :- X = a.", "a"},
		{"p(" + atoms(0, 1000) + "). p(" + atoms(1000, 22) + "). p(f(b)).", "f"},
		{"p(" + atoms(0, 1000) + "). p(" + atoms(1000, 22) + "). p(n0(b)).", "b"},
		// Of predicates, variables and integers the names don't count.
		{"co other/3. p(" + atoms(0, 1000) + "). p(" + atoms(1000, 22) + "). p(f) :- q(g). q(n0) :- other(n1,7,n2(Y)).", "f"},
		{"co other/3. p(" + atoms(0, 1000) + "). p(" + atoms(1000, 22) + "). p(X) :- q(Z). q(n0) :- other(n1,7,n2(Y)).", ""},
	} {
		m, err := machine.New(compiled(x.program), 100)
		if x.missing == "" {
			if m == nil || err != nil {
				t.Errorf("%v", err)
			}
			continue
		}
		if m != nil || !isNoRoomForAName(err, x.missing) {
			t.Errorf("%v, want that there is no room for %s", err, x.missing)
		}
		// Ahead of a size that may not be.
		if m, err := machine.New(compiled(x.program), 0); m != nil || !isNoRoomForAName(err, x.missing) {
			t.Error(m, err)
		}
	}
}

// P18.1: New and Ask: names count in the order of meeting, not in that of the nodes; those of nodes that aren't met don't count.
func TestNamesAreMet(t *testing.T) {
	node := func(kind int, name string, args ...int) api.Node {
		return api.Node{Kind: kind, Name: name, Args: args}
	}
	nodes := []api.Node{node(kAtom, "c"), node(kAtom, "b"), node(kAtom, "unmet"), node(kComp, "unmet2", 2), node(kComp, "a", 1, 5, 0), node(kComp, "d", 4), node(kAtom, "e")}
	met := []string{"e", "a", "b", "d", "c"}
	roots := []int{6, 4, 5, 0}
	for room := range 7 {
		x := compiled("p(" + atoms(0, 1000) + "). p(" + atoms(1000, 22-room) + "). r(X, X, X, X).")
		m := made(t, x, 100)
		err := m.Ask(api.Rule{Pred: -1, Graph: api.Graph{Nodes: nodes, Roots: roots}}, []string{"A", "B", "C", "D"})
		x.Rules[2].Graph = api.Graph{Nodes: nodes, Roots: roots}
		_, no := machine.New(x, 100)
		if room >= len(met) {
			if err != nil || no != nil {
				t.Error(room, err, no)
			}
			continue
		}
		if !isNoRoomForAName(err, met[room]) || !isNoRoomForAName(no, met[room]) {
			t.Errorf("with room for %d: %v, %v, want %s", room, err, no, met[room])
		}
		wantNoQuery(t, m)
	}
}

// P18.1: Ask: the names of the rules and of the query together; those of earlier queries don't count.
func TestManyNamesOfQueries(t *testing.T) {
	x := compiled("p(" + atoms(0, 1000) + "). p(" + atoms(1000, 21) + ").")
	m := made(t, x, 30000)
	for i := range 5 {
		ask(t, m, x, "X = [n0,n1,f(Y)|n1020].")
		ask(t, m, x, "X = other"+strconv.Itoa(i)+".")
		wantNext(t, m, 1, true, 1)
		if a := answer(t, m); vars(a) != "other"+strconv.Itoa(i) {
			t.Error(vars(a))
		}
		r, names := query(x, "X = one, Y = another, X = Z.")
		if err := m.Ask(r, names); !isNoRoomForAName(err, "another") {
			t.Error(err)
		}
		wantNoQuery(t, m)
		r, names = query(x, "p(f(f,n0,g)).")
		if err := m.Ask(r, names); !isNoRoomForAName(err, "g") {
			t.Error(err)
		}
		wantNoQuery(t, m)
	}
	// With all of them in one store.
	ask(t, m, x, "X = last, p(X1), p(X2), dif(X1, X2).")
	if told := rows(t, m, 9); strings.Count(told, " | ") != 2 || !strings.HasPrefix(told, "6: last, ") {
		t.Error(len(told))
	}
}

// sample is a code, a query's rule that a machine takes, and its variables.
func sample() (api.Code, api.Rule, []string) {
	x := compiled("p(X, Y) :- p(Y, X). q.")
	r, names := query(x, "p(X, f(Y)), q, X = Y, dif(X, a), p(Y, Z).")
	return x, r, names
}

// wantNotAsked stops the test unless Ask refuses a rule as none of the code, and the old query is gone.
func wantNotAsked(t *testing.T, how string, r api.Rule, names []string) {
	t.Helper()
	x, old, oldNames := sample()
	m := made(t, x, 1000)
	for range 2 {
		if err := m.Ask(old, oldNames); err != nil {
			t.Fatal(err)
		}
		if ok, err := m.Next(2); ok || err == nil {
			t.Fatal(ok, err)
		}
		if err := m.Ask(r, names); !isFault(err, errCode, -1, errTemplate, -1) {
			t.Fatalf("%s: %v", how, err)
		}
		wantNoQuery(t, m)
	}
}

// P18.1: Ask: rules that are no query's of this code, by each of the reasons.
func TestBadQueries(t *testing.T) {
	for _, x := range []struct {
		how   string
		spoil func(r *api.Rule, names *[]string)
	}{
		{"predicate 0", func(r *api.Rule, names *[]string) { r.Pred = 0 }},
		{"predicate 1", func(r *api.Rule, names *[]string) { r.Pred = 1 }},
		{"predicate -2", func(r *api.Rule, names *[]string) { r.Pred = -2 }},
		{"predicate 2", func(r *api.Rule, names *[]string) { r.Pred = 2 }},
		{"a goal of no kind", func(r *api.Rule, names *[]string) { r.Goals[1].Kind = 0 }},
		{"a goal of no kind", func(r *api.Rule, names *[]string) { r.Goals[1].Kind = 4 }},
		{"a goal of no kind", func(r *api.Rule, names *[]string) { r.Goals[2].Kind = -1 }},
		{"a call of no predicate", func(r *api.Rule, names *[]string) { r.Goals[1].Pred = -1 }},
		{"a call of no predicate", func(r *api.Rule, names *[]string) { r.Goals[1].Pred = 2 }},
		{"a call of no predicate", func(r *api.Rule, names *[]string) { r.Goals[0].Pred = math.MaxInt }},
		{"a call of no predicate", func(r *api.Rule, names *[]string) { r.Goals[0].Pred = math.MinInt }},
		{"a call of another predicate", func(r *api.Rule, names *[]string) { r.Goals[0].Pred = 1 }},
		{"an equation with a predicate", func(r *api.Rule, names *[]string) { r.Goals[2].Pred = 0 }},
		{"an equation with a predicate", func(r *api.Rule, names *[]string) { r.Goals[2].Pred = -2 }},
		{"a disequality with a predicate", func(r *api.Rule, names *[]string) { r.Goals[3].Pred = 1 }},
		{"a goal less", func(r *api.Rule, names *[]string) { r.Goals = r.Goals[1:] }},
		{"a goal more", func(r *api.Rule, names *[]string) { r.Goals = append(r.Goals, api.Step{Kind: eq, Pred: -1}) }},
		{"too many goals", func(r *api.Rule, names *[]string) {
			for len(r.Goals) <= mostGoals {
				r.Goals = append(r.Goals, api.Step{Kind: call, Pred: 1})
			}
		}},
		{"a root less", func(r *api.Rule, names *[]string) { r.Graph.Roots = r.Graph.Roots[1:] }},
		{"a root more", func(r *api.Rule, names *[]string) { r.Graph.Roots = append(r.Graph.Roots, 0) }},
		{"no roots", func(r *api.Rule, names *[]string) { r.Graph.Roots = nil }},
		{"a root that is no node", func(r *api.Rule, names *[]string) { r.Graph.Roots[4] = len(r.Graph.Nodes) }},
		{"a root that is no node", func(r *api.Rule, names *[]string) { r.Graph.Roots[4] = -1 }},
		{"a node that isn't good", func(r *api.Rule, names *[]string) { r.Graph.Nodes[0].Name = "a" }},
		{"a node that isn't good", func(r *api.Rule, names *[]string) {
			r.Graph.Nodes = append(r.Graph.Nodes, api.Node{Kind: kComp, Name: "f"})
		}},
		{"too many nodes", func(r *api.Rule, names *[]string) {
			for len(r.Graph.Nodes) <= mostNodes {
				r.Graph.Nodes = append(r.Graph.Nodes, api.Node{Kind: kVar})
			}
		}},
		{"too many roots", func(r *api.Rule, names *[]string) {
			for i := range 4096 {
				*names = append(*names, "N"+strconv.Itoa(i))
				r.Graph.Roots = append(r.Graph.Roots, 0)
			}
		}},
		{"a name less", func(r *api.Rule, names *[]string) { *names = (*names)[1:] }},
		{"a name more", func(r *api.Rule, names *[]string) { *names = append(*names, "W") }},
		{"no names", func(r *api.Rule, names *[]string) { *names = nil }},
		{"the name of an atom", func(r *api.Rule, names *[]string) { (*names)[0] = "x" }},
		{"the empty name", func(r *api.Rule, names *[]string) { (*names)[1] = "" }},
		{"no name", func(r *api.Rule, names *[]string) { (*names)[1] = "X Y" }},
		{"no name", func(r *api.Rule, names *[]string) { (*names)[2] = "7" }},
		{"no name", func(r *api.Rule, names *[]string) { (*names)[2] = "É" }},
		{"a name that is too long", func(r *api.Rule, names *[]string) { (*names)[2] = strings.Repeat("X", 33) }},
		{"the name _", func(r *api.Rule, names *[]string) { (*names)[0] = "_" }},
		{"the name _", func(r *api.Rule, names *[]string) { (*names)[2] = "_" }},
		{"a name twice", func(r *api.Rule, names *[]string) { (*names)[1] = "X" }},
		{"a name twice", func(r *api.Rule, names *[]string) { (*names)[2] = "X" }},
		{"a name twice", func(r *api.Rule, names *[]string) { (*names)[2] = "Y" }},
	} {
		_, r, names := sample()
		x.spoil(&r, &names)
		wantNotAsked(t, x.how, r, names)
	}
	// A rule of the code is none of a query.
	x, _, _ := sample()
	wantNotAsked(t, "a clause", x.Rules[0], nil)
	wantNotAsked(t, "a clause", x.Rules[0], []string{"X", "Y"})
	wantNotAsked(t, "the zero rule", api.Rule{}, nil)
	// That the rule is none is told ahead of names for which there is no room.
	full := compiled("p(" + atoms(0, 1022) + ").")
	m := made(t, full, 100)
	r, names := query(full, "X = a, p(Y).")
	for _, list := range [][]string{{"X", "X"}, {"X"}, {"X", "_"}, {"X", "Y", "Z"}} {
		if err := m.Ask(r, list); !isFault(err, errCode, -1, errTemplate, -1) {
			t.Error(list, err)
		}
	}
	// And names ahead of words.
	m = made(t, full, 1)
	if err := m.Ask(r, names); !isNoRoomForAName(err, "a") {
		t.Error(err)
	}
}

// P18.1: Ask: rules and names at the edge of what a machine takes.
func TestQueriesThatAreTaken(t *testing.T) {
	x, _, _ := sample()
	for _, list := range [][]string{{"X", "Y", "Z"}, {"_X", "__", "_0"}, {"X1", "X_", "XX"}, {strings.Repeat("X", 32), strings.Repeat("Y", 32), "Z"}} {
		m := made(t, x, 1000)
		_, r, _ := sample()
		if err := m.Ask(r, list); err != nil {
			t.Error(list, err)
		}
		wantFuel(t, m, 5, 5)
	}
	// As many goals as there may be.
	m := made(t, x, 1000)
	r := api.Rule{Pred: -1}
	for range mostGoals {
		r.Goals = append(r.Goals, api.Step{Kind: call, Pred: 1})
	}
	if err := m.Ask(r, nil); err != nil {
		t.Fatal(err)
	}
	wantNext(t, m, 100, true, 32)
	// As many names as there may be, all of one variable; an atom and a compound in the place of variables; nodes that aren't met.
	r = api.Rule{Pred: -1, Graph: api.Graph{Nodes: []api.Node{{Kind: kVar}}, Roots: make([]int, 4096)}}
	var names []string
	for i := range 4096 {
		names = append(names, "N"+strconv.Itoa(i))
	}
	m = made(t, x, 5000)
	if err := m.Ask(r, names); err != nil {
		t.Fatal(err)
	}
	wantNext(t, m, 1, true, 0)
	if a := answer(t, m); len(a.Graph.Nodes) != 1 || !slices.Equal(a.Graph.Roots, r.Graph.Roots) || !slices.Equal(a.Vars, names) {
		t.Error(a.Graph.Nodes)
	}
	g := api.Graph{Nodes: []api.Node{{Kind: kAtom, Name: "unmet"}, {Kind: kComp, Name: "f", Args: []int{1, 2}}, {Kind: kInt, Num: 7}, {Kind: kVar}}, Roots: []int{1, 2, 1, 3}}
	if err := m.Ask(api.Rule{Pred: -1, Goals: []api.Step{{Kind: eq, Pred: -1}}, Graph: g}, []string{"A", "B"}); err != nil {
		t.Fatal(err)
	}
	if d := m.Dump(); !slices.Equal(d.Names, []string{"f"}) {
		t.Error(d.Names)
	}
	wantNext(t, m, 1, true, 1)
	if a := answer(t, m); vars(a) != "E1, 7 where E1 = f(E1,7)" || proofs(a) != "= q.0 @2+2" {
		t.Error(vars(a), proofs(a))
	}
}

// P18.1: a machine without a query, and what a refused Ask leaves: by each of its errors.
func TestNoQuery(t *testing.T) {
	x := compiled("p(a). p(b).")
	m := made(t, x, 10)
	wantNoQuery(t, m)
	r, names := query(x, "p(X).")
	for _, refuse := range []func() error{
		func() error { return m.Ask(api.Rule{}, nil) },
		func() error { return m.Ask(r, nil) },
		func() error {
			r, names := query(x, "X = [a,b,c,d,e,f].")
			return m.Ask(r, names)
		},
	} {
		for steps := range 4 {
			if err := m.Ask(r, names); err != nil {
				t.Fatal(err)
			}
			for range steps {
				m.Next(1)
			}
			if refuse() == nil {
				t.Fatal("it was taken")
			}
			wantNoQuery(t, m)
		}
	}
	ask(t, m, x, "p(X).")
	wantNext(t, m, 1, true, 1)
}

// P18.1: there is no answer to be told unless the last Next came to one.
func TestNoAnswer(t *testing.T) {
	x := compiled("p(a). p(b). q(a). q(c). r(f(X, X, X)).")
	m := made(t, x, 100)
	wantNone(t, m, errNoQuery)
	ask(t, m, x, "p(X), q(X).")
	wantNone(t, m, errNoMore)
	wantFuel(t, m, 1, 1)
	wantNone(t, m, errNoMore)
	wantNext(t, m, 1, true, 2)
	a := answer(t, m)
	for range 3 {
		if b := answer(t, m); tellingAnswer(a) != tellingAnswer(b) || vars(b) != "a" {
			t.Error(vars(b))
		}
	}
	// A query behind an answer has none of its own.
	ask(t, m, x, "p(X).")
	wantNone(t, m, errNoMore)
	wantNext(t, m, 1, true, 1)
	wantNext(t, m, 1, true, 2)
	if b := answer(t, m); vars(b) != "b" {
		t.Error(vars(b))
	}
	wantNext(t, m, 1, false, 2)
	wantNone(t, m, errNoMore)
	wantNext(t, m, 1, false, 2)
	wantNone(t, m, errNoMore)
	// Behind an answer fuel and room may be wanting.
	ask(t, m, x, "p(X), q(Y), X = Y.")
	wantNext(t, m, 3, true, 3)
	wantFuel(t, m, 1, 4)
	wantNone(t, m, errNoMore)
	m = made(t, x, 4)
	ask(t, m, x, "p(X).")
	wantNext(t, m, 9, true, 1)
	ask(t, m, x, "r(X).")
	wantHeap(t, m, 9, 6, 0)
	wantNone(t, m, errNoMore)
	// Without an alternative left, and without a goal, it is gone behind the end as well.
	ask(t, m, x, "")
	wantNone(t, m, errNoMore)
	wantNext(t, m, 1, true, 0)
	answer(t, m)
	wantNext(t, m, 1, false, 0)
	wantNone(t, m, errNoMore)
}

// P18.1, R7: a nil machine.
func TestNil(t *testing.T) {
	var m *machine.Machine
	for range 2 {
		if ok, err := m.Next(1); ok || !isFault(err, errNil, -1) {
			t.Error(ok, err)
		}
		if n, err := m.Compact(); n != 0 || !isFault(err, errNil, -1) {
			t.Error(n, err)
		}
		wantNone(t, m, errNoQuery)
		wantEmpty(t, m)
		_, r, names := sample()
		for _, err := range []error{m.Ask(r, names), m.Ask(api.Rule{}, nil), m.Ask(api.Rule{Pred: -1}, nil), m.Ask(r, nil)} {
			if !isFault(err, errNil, -1) {
				t.Error(err)
			}
		}
	}
}
