package code

import (
	"slices"

	"tendril/api"
	"tendril/graph"
)

func goodCode(c api.Code) bool {
	if len(c.Preds) > api.MaxPreds || len(c.Rules) > api.MaxClauses || !goodPreds(c.Preds) {
		return false
	}
	clauses := make([][]int, len(c.Preds))
	for i, r := range c.Rules {
		if !goodRule(c.Preds, r) {
			return false
		}
		clauses[r.Pred] = append(clauses[r.Pred], i)
	}
	same := func(p api.Pred, own []int) bool { return slices.Equal(p.Clauses, own) }
	return slices.EqualFunc(c.Preds, clauses, same)
}

// goodPreds tells whether predicates have signs that may be, each its own.
func goodPreds(preds []api.Pred) bool {
	bad := func(p api.Pred) bool { return !sign{p.Name, p.Arity}.good() }
	return !slices.ContainsFunc(preds, bad) && len(listOf(preds).number) == len(preds)
}

func goodRule(preds []api.Pred, r api.Rule) bool {
	if !isPred(preds, r.Pred) || len(r.Goals) > api.MaxGoals {
		return false
	}
	roots := preds[r.Pred].Arity
	for _, s := range r.Goals {
		n, good := asked(preds, s)
		if !good {
			return false
		}
		roots += n
	}
	return len(r.Graph.Roots) == roots && graph.Check(r.Graph) == nil
}

// asked is how many roots a goal asks for; false, if it may not be.
func asked(preds []api.Pred, s api.Step) (int, bool) {
	switch s.Kind {
	case api.GoalCall:
		if !isPred(preds, s.Pred) {
			return 0, false
		}
		return preds[s.Pred].Arity, true
	case api.GoalEq, api.GoalDif:
		return 2, s.Pred == -1
	}
	return 0, false
}

// isPred tells whether a number is a predicate's.
func isPred(preds []api.Pred, n int) bool { return n >= 0 && n < len(preds) }
