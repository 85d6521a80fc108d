package code_test

import (
	"regexp"
	"slices"
	"strconv"
	"strings"

	"tendril/api"
	"tendril/graph"
	"tendril/names"
	"tendril/parse"
	"tendril/tie"
)

// Here is what the chapter says, found by its words: predicates are told by their written names, what may be called by whether chapter 7 writes it as a goal.

var plain = regexp.MustCompile(`^[a-z][A-Za-z0-9_]{0,31}$`)

// sign is a predicate as it is written.
func sign(name string, arity int) string {
	if !plain.MatchString(name) {
		name = "'" + strings.NewReplacer(`'`, `\'`, `\`, `\\`).Replace(name) + "'"
	}
	return name + "/" + strconv.Itoa(arity)
}

// fine tells whether a goal may be.
func fine(g api.Goal) bool {
	_, ok := parse.Line(clause(a("h"), g))
	return ok
}

// called is the sign of a goal's predicate; none of an equation or a disequality.
func called(g api.Goal) string {
	if g.Kind == call {
		return sign(g.A.Name, len(g.A.Args))
	}
	return ""
}

// laid is the terms of a head's arguments and of goals.
func laid(head []api.Expr, goals []api.Goal) []api.Expr {
	var out []api.Expr
	out = append(out, head...)
	for _, g := range goals {
		switch g.Kind {
		case call:
			out = append(out, g.A.Args...)
		case eq, dif:
			out = append(out, g.A)
			out = append(out, g.B)
		}
	}
	return out
}

func fault(number, at int, name string, cause error) *api.Fault {
	return &api.Fault{Code: api.Errno(number), At: at, Name: name, Cause: cause}
}

// compiled is what Compile must answer.
func compiled(p api.Program) (api.Code, *api.Fault) {
	if len(p.Clauses) > mostClauses {
		return api.Code{}, fault(errClauses, len(p.Clauses), "", nil)
	}
	var x api.Code
	var signs []string
	for i, d := range p.Decls {
		s := sign(d.Name, d.Arity)
		if !names.Good(d.Name) || d.Arity < 0 || d.Arity > widest || s == "dif/2" || slices.Contains(signs, s) {
			return api.Code{}, fault(errDecl, i, "", nil)
		}
		signs = append(signs, s)
		x.Preds = append(x.Preds, api.Pred{Name: d.Name, Arity: d.Arity, Co: true})
	}
	for i, k := range p.Clauses {
		g, err := clauseGraph(k, i)
		if err != nil {
			return api.Code{}, err
		}
		s := sign(k.Head.Name, len(k.Head.Args))
		if !slices.Contains(signs, s) {
			signs = append(signs, s)
			x.Preds = append(x.Preds, api.Pred{Name: k.Head.Name, Arity: len(k.Head.Args)})
		}
		at := slices.Index(signs, s)
		x.Preds[at].Clauses = append(x.Preds[at].Clauses, i)
		x.Rules = append(x.Rules, api.Rule{Pred: at, Graph: g})
	}
	if len(signs) > mostPreds {
		return api.Code{}, fault(errPreds, len(signs), "", nil)
	}
	for i, k := range p.Clauses {
		for _, g := range k.Body {
			s := called(g)
			if s != "" && !slices.Contains(signs, s) {
				return api.Code{}, fault(errUnknown, i, s, nil)
			}
			x.Rules[i].Goals = append(x.Rules[i].Goals, api.Step{Kind: g.Kind, Pred: slices.Index(signs, s)})
		}
	}
	return x, nil
}

// clauseGraph is a clause's graph, or what is at fault in it, but for predicates that nobody knows.
func clauseGraph(k api.Clause, at int) (api.Graph, *api.Fault) {
	if !fine(calls(k.Head)) {
		return api.Graph{}, fault(errHead, at, "", nil)
	}
	if len(k.Body) > mostGoals {
		return api.Graph{}, fault(errGoals, at, "", nil)
	}
	for _, g := range k.Body {
		if !fine(g) {
			return api.Graph{}, fault(errGoal, at, "", nil)
		}
	}
	g, _, err := tie.Tie(laid(k.Head.Args, k.Body), nil)
	if err != nil {
		return api.Graph{}, fault(errTie, at, "", err)
	}
	return g, nil
}

// asked is what Query must answer.
func asked(x api.Code, goals []api.Goal) (api.Rule, []string, *api.Fault) {
	if len(wrong(x)) > 0 {
		return api.Rule{}, nil, fault(errTemplate, -1, "", nil)
	}
	if len(goals) > mostGoals {
		return api.Rule{}, nil, fault(errGoals, len(goals), "", nil)
	}
	var signs []string
	for _, p := range x.Preds {
		signs = append(signs, sign(p.Name, p.Arity))
	}
	r := api.Rule{Pred: -1}
	for i, g := range goals {
		if !fine(g) {
			return api.Rule{}, nil, fault(errGoal, i, "", nil)
		}
		s := called(g)
		if s != "" && !slices.Contains(signs, s) {
			return api.Rule{}, nil, fault(errUnknown, i, s, nil)
		}
		r.Goals = append(r.Goals, api.Step{Kind: g.Kind, Pred: slices.Index(signs, s)})
	}
	var vars []api.Expr
	told := occurring(laid(nil, goals))
	for _, name := range told {
		vars = append(vars, v(name))
	}
	g, _, err := tie.Tie(laid(vars, goals), nil)
	if err != nil {
		return api.Rule{}, nil, fault(errTie, -1, "", err)
	}
	r.Graph = g
	return r, told, nil
}

// occurring is the names but _ in terms, in the order in which they occur first.
func occurring(exprs []api.Expr) []string {
	var all []string
	var in func(e api.Expr)
	in = func(e api.Expr) {
		if e.Kind == kVar && e.Name != "_" && !slices.Contains(all, e.Name) {
			all = append(all, e.Name)
		}
		for _, x := range e.Args {
			in(x)
		}
	}
	for _, e := range exprs {
		in(e)
	}
	return all
}

// wrong is all that keeps a code from being good.
func wrong(x api.Code) []string {
	var out []string
	note := func(bad bool, what string) {
		if bad {
			out = append(out, what)
		}
	}
	arity := func(k int) int {
		if k < 0 || k >= len(x.Preds) {
			out = append(out, "no predicate")
			return 0
		}
		return x.Preds[k].Arity
	}
	note(len(x.Preds) > mostPreds, "too many predicates")
	note(len(x.Rules) > mostClauses, "too many rules")
	for i, p := range x.Preds {
		note(!names.Good(p.Name), "no name")
		note(p.Arity < 0 || p.Arity > widest, "no number of arguments")
		note(p.Name == "dif" && p.Arity == 2, "dif")
		for _, q := range x.Preds[:i] {
			note(q.Name == p.Name && q.Arity == p.Arity, "twice")
		}
		var own []int
		for j, r := range x.Rules {
			if r.Pred == i {
				own = append(own, j)
			}
		}
		note(!slices.Equal(own, p.Clauses), "other clauses")
	}
	for _, r := range x.Rules {
		roots := arity(r.Pred)
		note(len(r.Goals) > mostGoals, "too many goals")
		for _, s := range r.Goals {
			if s.Kind == call {
				roots += arity(s.Pred)
				continue
			}
			note(s.Kind != eq && s.Kind != dif, "no kind")
			note(s.Pred != -1, "a predicate")
			roots += 2
		}
		note(graph.Check(r.Graph) != nil, "no graph")
		note(len(r.Graph.Roots) != roots, "other roots")
	}
	return out
}

// keyed tells whether a clause's first argument and a key may be of one term.
func keyed(m api.Node, k api.Key) bool {
	if k == (api.Key{}) || m.Kind == kVar {
		return true
	}
	return k.Kind == m.Kind && k.Name == m.Name && k.Num == m.Num && k.Arity == len(m.Args)
}

// left is what Select must answer.
func left(x api.Code, pred int, k api.Key) []int {
	var out []int
	if len(wrong(x)) > 0 {
		return nil
	}
	for i, r := range x.Rules {
		if r.Pred == pred && (x.Preds[pred].Arity == 0 || keyed(r.Graph.Nodes[r.Graph.Roots[0]], k)) {
			out = append(out, i)
		}
	}
	return out
}

// dice is a row of numbers that look scattered, and are the same each time.
type dice uint64

func (d *dice) below(n int) int {
	*d = *d*6364136223846793005 + 1442695040888963407
	x := uint64(*d)
	x ^= x >> 29
	x *= 0xbf58476d1ce4e5b9
	x ^= x >> 32
	return int(x % uint64(n))
}

func (d *dice) one(list ...string) string { return list[d.below(len(list))] }

// expr is a term, not too deep, over few names.
func (d *dice) expr(deep int) api.Expr {
	switch k := d.below(10); {
	case k < 4 && deep > 0:
		e := c(d.one("f", "f", "g", ".", "dif"))
		for range 1 + d.below(3) {
			e.Args = append(e.Args, d.expr(deep-1))
		}
		return e
	case k == 4:
		return a(d.one("a", "b", "f", "X", "[]"))
	case k == 5:
		return n(d.below(3) - 1)
	case k == 6:
		return v("_")
	}
	return v(d.one("X", "Y", "Z", "_1"))
}

// head is a term that may be called, of few predicates.
func (d *dice) head() api.Expr {
	name, arity := d.one("p", "p", "q", "dif", "P'", "[]", "."), d.below(4)
	if arity == 2 && (name == "dif" || name == ".") || arity == 0 && name == "[]" {
		name = "p"
	}
	if arity == 0 {
		return a(name)
	}
	e := c(name)
	for range arity {
		e.Args = append(e.Args, d.expr(d.below(3)))
	}
	return e
}

// goals is goals that may be; their calls are mostly of one of some heads.
func (d *dice) goals(count int, heads []api.Expr) []api.Goal {
	var out []api.Goal
	for range count {
		switch k := d.below(6); {
		case k == 0:
			out = append(out, one(d.expr(2), d.expr(2)))
		case k == 1:
			out = append(out, unlike(d.expr(2), d.expr(2)))
		case k == 2 && d.below(12) == 0 || len(heads) == 0:
			out = append(out, calls(d.head()))
		default:
			e := heads[d.below(len(heads))]
			args := e.Args
			e.Args = nil
			for range args {
				e.Args = append(e.Args, d.expr(2))
			}
			out = append(out, calls(e))
		}
	}
	return out
}

// program is a program that is taken, unless it calls what nobody knows.
func (d *dice) program() api.Program {
	var p api.Program
	for range d.below(5) {
		x := api.Decl{Name: d.one("p", "q", "r", "dif", "P'", "[]", "."), Arity: d.below(4)}
		if !slices.Contains(p.Decls, x) && (x != api.Decl{Name: "dif", Arity: 2}) {
			p.Decls = append(p.Decls, x)
		}
	}
	var heads []api.Expr
	for _, x := range p.Decls {
		if e := applied(x.Name, x.Arity, a("a")); fine(calls(e)) {
			heads = append(heads, e)
		}
	}
	for range d.below(7) {
		heads = append(heads, d.head())
		p.Clauses = append(p.Clauses, clause(heads[len(heads)-1]))
	}
	for i := range p.Clauses {
		p.Clauses[i].Body = d.goals(d.below(4), heads)
	}
	return p
}
