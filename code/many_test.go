package code_test

import (
	"errors"
	"math"
	"slices"
	"testing"

	"tendril/api"
	"tendril/code"
)

// sameFault tells whether an error is what was to be told, causes and all.
func sameFault(err error, want *api.Fault) bool {
	if want == nil {
		return err == nil
	}
	var cause *api.Fault
	errors.As(want.Cause, &cause)
	return isFault(err, int(want.Code), want.At, want.Name, cause)
}

// wantAll stops the test unless Compile answers as the oracle does, and is the code and whether the program was taken.
func wantAll(t *testing.T, p api.Program) (api.Code, bool) {
	t.Helper()
	want, fault := compiled(p)
	got, err := code.Compile(p)
	if !sameFault(err, fault) || tellCode(got) != tellCode(want) {
		t.Fatalf("%v\n%s\n%v, want\n%s\n%v", p, short(tellCode(got)), err, short(tellCode(want)), fault)
	}
	if err != nil {
		return got, false
	}
	if err := code.Check(got); err != nil || len(wrong(got)) > 0 {
		t.Fatalf("%s: %v, %v", tellCode(got), err, wrong(got))
	}
	return got, true
}

// wantAllQueries stops the test unless Query answers as the oracle does, and is whether the goals were taken.
func wantAllQueries(t *testing.T, x api.Code, goals []api.Goal) bool {
	t.Helper()
	r, names, fault := asked(x, goals)
	got, told, err := code.Query(x, goals)
	if !sameFault(err, fault) || tellRule(got) != tellRule(r) || !slices.Equal(told, names) {
		t.Fatalf("%v\n%s %q\n%v, want\n%s %q\n%v", goals, tellRule(got), told, err, tellRule(r), names, fault)
	}
	return err == nil
}

// keys is all kinds of keys, those of a code's nodes among them.
func keys(x api.Code) []api.Key {
	out := []api.Key{{}, {Kind: kVar}, {Kind: kInt, Num: 5}, {Kind: kAtom, Name: "a", Arity: 1}, {Name: "a"}}
	for _, r := range x.Rules {
		for i := range r.Graph.Nodes {
			out = append(out, code.Key(r.Graph, i))
		}
	}
	return out
}

func heads(p api.Program) []api.Expr {
	var out []api.Expr
	for _, k := range p.Clauses {
		out = append(out, k.Head)
	}
	return out
}

// P16.1, P16.2: scattered programs and queries, and all that is asked of them.
func TestManyPrograms(t *testing.T) {
	taken, unknown, answered := 0, 0, 0
	for seed := range 7000 {
		d := dice(seed)
		p := d.program()
		x, ok := wantAll(t, p)
		if !ok {
			unknown++
			continue
		}
		taken++
		for range 3 {
			if wantAllQueries(t, x, d.goals(d.below(5), heads(p))) {
				answered++
			}
		}
		for i := -1; i <= len(x.Preds); i++ {
			for _, k := range keys(x) {
				wantSelect(t, x, i, k, left(x, i, k)...)
			}
		}
	}
	if taken < 3000 || unknown < 150 || answered < 6000 {
		t.Errorf("%d taken, %d unknown, %d answered", taken, unknown, answered)
	}
}

// spoilExpr makes a term out of another that may not be good.
func (d *dice) spoilExpr(e api.Expr) api.Expr {
	switch d.below(8) {
	case 0:
		e.Kind = d.below(7) - 1
	case 1:
		e.Name = d.one("", "a b", "X", "[]", ".", "dif", "_")
	case 2:
		e.Num = d.below(3) - 1
	case 3:
		e.Args = nil
	case 4:
		e.Args = append(slices.Clone(e.Args), a("more"))
	case 5:
		return d.expr(2)
	case 6:
		return api.Expr{}
	default:
		if len(e.Args) > 0 {
			e.Args = slices.Clone(e.Args)
			i := d.below(len(e.Args))
			e.Args[i] = d.spoilExpr(e.Args[i])
		}
	}
	return e
}

func (d *dice) spoilGoals(goals []api.Goal) {
	if len(goals) == 0 {
		return
	}
	switch g := &goals[d.below(len(goals))]; d.below(4) {
	case 0:
		g.Kind = d.below(6) - 1
	case 1:
		g.A = d.spoilExpr(g.A)
	case 2:
		g.B = d.spoilExpr(g.B)
	default:
		*g = calls(d.head())
	}
}

// spoilProgram makes a program out of another that may be refused.
func (d *dice) spoilProgram(p *api.Program) {
	switch d.below(5) {
	case 0:
		if len(p.Decls) > 0 {
			x := &p.Decls[d.below(len(p.Decls))]
			*x = api.Decl{Name: d.one("p", "q", "dif", "", "a b", "p"), Arity: d.below(12) - 1}
		}
	case 1:
		if len(p.Decls) > 0 {
			p.Decls = slices.Insert(p.Decls, d.below(len(p.Decls)), p.Decls[d.below(len(p.Decls))])
		}
	case 2:
		if len(p.Clauses) > 0 {
			k := &p.Clauses[d.below(len(p.Clauses))]
			k.Head = d.spoilExpr(k.Head)
		}
	default:
		if len(p.Clauses) > 0 {
			d.spoilGoals(p.Clauses[d.below(len(p.Clauses))].Body)
		}
	}
}

// P16.1: scattered programs and queries that may be refused, by several faults at once.
func TestSpoiltPrograms(t *testing.T) {
	faults := map[api.Errno]int{}
	note := func(err error) {
		var f *api.Fault
		if errors.As(err, &f) {
			faults[f.Code]++
		}
	}
	for seed := range 12000 {
		d := dice(seed)
		p := d.program()
		x, ok := wantAll(t, p)
		for range 1 + d.below(3) {
			d.spoilProgram(&p)
		}
		wantAll(t, p)
		_, err := code.Compile(p)
		note(err)
		if !ok {
			continue
		}
		goals := d.goals(1+d.below(4), heads(p))
		for range 1 + d.below(2) {
			d.spoilGoals(goals)
		}
		wantAllQueries(t, x, goals)
		_, _, err = code.Query(x, goals)
		note(err)
	}
	for _, number := range []api.Errno{errDecl, errHead, errGoal, errUnknown} {
		if faults[number] < 500 {
			t.Errorf("%d of the code %d", faults[number], number)
		}
	}
}

// spoilCode makes a code out of another that may not be good.
func (d *dice) spoilCode(x *api.Code) {
	small := func() int { return d.below(8) - 2 }
	if len(x.Preds) > 0 && d.below(2) == 0 {
		p := &x.Preds[d.below(len(x.Preds))]
		switch d.below(5) {
		case 0:
			p.Name = d.one("p", "dif", "", "x y", "q", "new")
		case 1:
			p.Arity = d.below(11) - 1
		case 2:
			p.Co = !p.Co
		case 3:
			p.Clauses = append(p.Clauses, small())
		default:
			p.Clauses = p.Clauses[:d.below(len(p.Clauses)+1)]
		}
		return
	}
	if len(x.Rules) == 0 {
		x.Preds = append(x.Preds, pred(d.one("p", "q", "new"), small(), true))
		return
	}
	switch r := &x.Rules[d.below(len(x.Rules))]; d.below(6) {
	case 0:
		r.Pred = small()
	case 1:
		r.Goals = append(r.Goals, api.Step{Kind: small(), Pred: small()})
	case 2:
		if len(r.Goals) > 0 {
			r.Goals[d.below(len(r.Goals))] = api.Step{Kind: small(), Pred: small()}
		}
	case 3:
		r.Graph.Roots = append(r.Graph.Roots, small())
	case 4:
		r.Graph.Roots = r.Graph.Roots[:d.below(len(r.Graph.Roots)+1)]
	default:
		if len(r.Graph.Nodes) > 0 {
			r.Graph.Nodes[d.below(len(r.Graph.Nodes))].Kind = small()
		}
	}
}

// P16.2: scattered codes that may not be good, at each call that asks.
func TestSpoiltCodes(t *testing.T) {
	good, bad := 0, 0
	for seed := range 25000 {
		d := dice(seed)
		p := d.program()
		x, err := code.Compile(p)
		if err != nil {
			continue
		}
		for range 1 + d.below(3) {
			d.spoilCode(&x)
		}
		if len(wrong(x)) == 0 {
			good++
			wantGood(t, x)
			wantAllQueries(t, x, d.goals(d.below(4), heads(p)))
			for i := -1; i <= len(x.Preds); i++ {
				for _, k := range keys(x)[:5] {
					wantSelect(t, x, i, k, left(x, i, k)...)
				}
			}
		} else {
			bad++
			wantNotGood(t, x)
		}
	}
	if good < 1000 || bad < 10000 {
		t.Errorf("%d good, %d not", good, bad)
	}
}

// renamed is a term with other names, by a table; _ stays.
func renamed(e api.Expr, table map[string]string) api.Expr {
	if e.Kind == kVar && e.Name != "_" {
		e.Name = table[e.Name]
	}
	args := e.Args
	e.Args = nil
	for _, x := range args {
		e.Args = append(e.Args, renamed(x, table))
	}
	return e
}

func renamedGoals(goals []api.Goal, table map[string]string) []api.Goal {
	var out []api.Goal
	for _, g := range goals {
		out = append(out, api.Goal{Kind: g.Kind, A: renamed(g.A, table), B: renamed(g.B, table)})
	}
	return out
}

// table is other names for the program's few, one to one.
func (d *dice) table() map[string]string {
	from := []string{"X", "Y", "Z", "_1"}
	to := [][]string{{"Y", "X", "_1", "Z"}, {"_a", "__", "_2", "_X"}, {"Z", "X", "Y", "A"}, {"_1", "Z", "Y", "X"}}[d.below(4)]
	out := map[string]string{}
	for i, name := range from {
		out[name] = to[i]
	}
	return out
}

// P16.3: other names of variables in each clause, one to one, change nothing in the code; and in a query nothing but the names.
func TestOtherNames(t *testing.T) {
	changed := 0
	for seed := range 8000 {
		d := dice(seed)
		p := d.program()
		x, err := code.Compile(p)
		if err != nil {
			continue
		}
		other := api.Program{Decls: p.Decls}
		for _, k := range p.Clauses {
			table := d.table()
			other.Clauses = append(other.Clauses, clause(renamed(k.Head, table), renamedGoals(k.Body, table)...))
		}
		wantCode(t, other, x)
		goals, table := d.goals(d.below(5), heads(p)), d.table()
		r, names, err := code.Query(x, goals)
		if err != nil {
			continue
		}
		for i, name := range names {
			names[i] = table[name]
			changed++
		}
		wantQuery(t, x, renamedGoals(goals, table), r, names...)
	}
	if changed < 5000 {
		t.Error(changed)
	}
}

// renumbered is a code's rules with the predicates' written names for their numbers.
func renumbered(x api.Code) []string {
	var out []string
	name := func(k int) string {
		if k < 0 {
			return ""
		}
		return sign(x.Preds[k].Name, x.Preds[k].Arity)
	}
	for _, r := range x.Rules {
		s := name(r.Pred) + ":"
		for _, g := range r.Goals {
			s += " " + name(g.Pred)
			if g.Kind != call {
				s += tellRule(api.Rule{Goals: []api.Step{g}})
			}
		}
		out = append(out, s+tellRule(api.Rule{Graph: r.Graph}))
	}
	return out
}

// listed is a code's predicates by their written names, in the order of these.
func listed(x api.Code) []string {
	var out []string
	for _, p := range x.Preds {
		out = append(out, tellCode(api.Code{Preds: []api.Pred{p}}))
	}
	slices.Sort(out)
	return out
}

// P16.3: another order of the declarations changes nothing but the numbers of predicates.
func TestOtherOrder(t *testing.T) {
	changed := 0
	for seed := range 6000 {
		d := dice(seed)
		p := d.program()
		x, err := code.Compile(p)
		if err != nil {
			continue
		}
		other := api.Program{Decls: slices.Clone(p.Decls), Clauses: p.Clauses}
		for i := range other.Decls {
			j := d.below(i + 1)
			other.Decls[i], other.Decls[j] = other.Decls[j], other.Decls[i]
		}
		y := mustCompile(t, other)
		if !slices.Equal(renumbered(x), renumbered(y)) || !slices.Equal(listed(x), listed(y)) {
			t.Fatalf("%s\n%s", tellCode(x), tellCode(y))
		}
		if tellCode(x) != tellCode(y) {
			changed++
		}
	}
	if changed < 1000 {
		t.Error(changed)
	}
}

// P16.3: a further clause, wherever it stands, leaves the others' rules, but for numbers of predicates.
func TestFurtherClause(t *testing.T) {
	changed := 0
	for seed := range 6000 {
		d := dice(seed)
		p := d.program()
		x, err := code.Compile(p)
		if err != nil {
			continue
		}
		at, head := d.below(len(p.Clauses)+1), d.head()
		more := api.Program{Decls: p.Decls, Clauses: slices.Insert(slices.Clone(p.Clauses), at, clause(head, d.goals(d.below(3), []api.Expr{head})...))}
		y, err := code.Compile(more)
		if err != nil {
			continue
		}
		if rules := renumbered(y); !slices.Equal(slices.Delete(rules, at, at+1), renumbered(x)) {
			t.Fatalf("%s\n%s", tellCode(x), tellCode(y))
		}
		if len(y.Preds) > len(x.Preds) {
			changed++
		}
	}
	if changed < 1000 {
		t.Error(changed)
	}
}

// P16.2: Key of all nodes of all kinds, in graphs that may be anything.
func TestManyKeys(t *testing.T) {
	for seed := range 20000 {
		d := dice(seed)
		var g api.Graph
		for range d.below(4) {
			g.Nodes = append(g.Nodes, api.Node{Kind: d.below(8) - 2, Name: d.one("", "a", "X", "a b"), Num: d.below(3) - 1, Args: make([]int, d.below(11))})
		}
		for _, at := range []int{-1, 0, 1, 2, 3, 4, math.MaxInt, math.MinInt} {
			var want api.Key
			if at >= 0 && at < len(g.Nodes) {
				switch m := g.Nodes[at]; m.Kind {
				case kAtom:
					want = api.Key{Kind: kAtom, Name: m.Name}
				case kInt:
					want = api.Key{Kind: kInt, Num: m.Num}
				case kComp:
					want = api.Key{Kind: kComp, Name: m.Name, Arity: len(m.Args)}
				}
			}
			if got := code.Key(g, at); got != want {
				t.Fatalf("%v at %d: %v, want %v", g, at, got, want)
			}
		}
	}
}
