package code

import (
	"slices"

	"tendril/api"
	"tendril/parse"
	"tendril/tie"
)

// mayBeCalled tells whether a written term may be a head or a call.
func mayBeCalled(e api.Expr) bool {
	if e.Kind != api.KAtom && e.Kind != api.KComp {
		return false
	}
	s := signOf(e)
	if s == (sign{api.Nil, 0}) || s == (sign{api.Cons, 2}) || s == (sign{dif, 2}) {
		return false
	}
	return parse.Good(e)
}

func goodGoal(g api.Goal) bool {
	switch g.Kind {
	case api.GoalCall:
		return mayBeCalled(g.A) && isZero(g.B)
	case api.GoalEq, api.GoalDif:
		return parse.Good(g.A) && parse.Good(g.B)
	}
	return false
}

func isZero(e api.Expr) bool {
	return e.Kind == 0 && e.Name == "" && e.Num == 0 && len(e.Args) == 0
}

// querySteps is a query's goals compiled.
func querySteps(c api.Code, goals []api.Goal) ([]api.Step, error) {
	l := listOf(c.Preds)
	var out []api.Step
	for i, g := range goals {
		if !goodGoal(g) {
			return nil, fault(api.ErrGoal, i)
		}
		s, err := l.step(g, i)
		if err != nil {
			return nil, err
		}
		out = append(out, s)
	}
	return out, nil
}

// tiedClauses is a rule for each clause, with its graph alone.
func tiedClauses(clauses []api.Clause) ([]api.Rule, error) {
	var rules []api.Rule
	for i, c := range clauses {
		if err := checkClause(c, i); err != nil {
			return nil, err
		}
		g, _, err := tied(c.Head.Args, c.Body, i)
		if err != nil {
			return nil, err
		}
		rules = append(rules, api.Rule{Graph: g})
	}
	return rules, nil
}

// checkClause is the first fault of a clause, but for what tie refuses and for unknown predicates.
func checkClause(c api.Clause, at int) error {
	bad := func(g api.Goal) bool { return !goodGoal(g) }
	switch {
	case !mayBeCalled(c.Head):
		return fault(api.ErrHead, at)
	case len(c.Body) > api.MaxGoals:
		return fault(api.ErrGoals, at)
	case slices.ContainsFunc(c.Body, bad):
		return fault(api.ErrGoal, at)
	}
	return nil
}

// tied is the graph of a head's arguments and of goals, and its names; its fault is told at a place.
func tied(head []api.Expr, goals []api.Goal, at int) (api.Graph, []api.Named, error) {
	g, named, err := tie.Tie(terms(head, goals), nil)
	if err != nil {
		return api.Graph{}, nil, &api.Fault{Code: api.ErrTie, At: at, Cause: err}
	}
	return g, named, nil
}

// terms is a head's arguments, and behind them those of each goal, or its two sides.
func terms(head []api.Expr, goals []api.Goal) []api.Expr {
	out := slices.Clone(head)
	for _, g := range goals {
		if g.Kind == api.GoalCall {
			out = append(out, g.A.Args...)
		} else {
			out = append(out, g.A, g.B)
		}
	}
	return out
}

// variables is a variable for each name but _ that occurs in good terms, in the order in which they occur first.
func variables(exprs []api.Expr) []api.Expr {
	var out []api.Expr
	seen := map[string]struct{}{"_": {}}
	var look func(e api.Expr)
	look = func(e api.Expr) {
		if _, known := seen[e.Name]; e.Kind == api.KVar && !known {
			seen[e.Name] = struct{}{}
			out = append(out, api.Expr{Kind: api.KVar, Name: e.Name})
		}
		for _, a := range e.Args {
			look(a)
		}
	}
	for _, e := range exprs {
		look(e)
	}
	return out
}
