package machine

import (
	"slices"

	"tendril/api"
	"tendril/code"
	"tendril/graph"
	"tendril/lex"
	"tendril/names"
)

// program is a good code as a machine keeps it.
type program struct {
	preds []api.Pred
	rules []clause
	names *names.Table // all names of atoms and compounds that the rules have
}

// clause is a rule, with the key of its head's first argument.
type clause struct {
	goals []api.Step
	graph api.Graph
	key   api.Key
}

// programOf is the program of a good code; its fault is that of the first name for which there is no room.
func programOf(c api.Code) (*program, error) {
	p := &program{names: names.New()}
	for _, x := range c.Preds {
		p.preds = append(p.preds, api.Pred{Arity: x.Arity, Co: x.Co, Clauses: slices.Clone(x.Clauses)})
	}
	for _, r := range c.Rules {
		// What isn't met is never put down; and what is trimmed is a copy.
		g, _ := graph.Trim(r.Graph)
		if err := enterNames(p.names, g); err != nil {
			return nil, err
		}
		k := clause{goals: slices.Clone(r.Goals), graph: g}
		if c.Preds[r.Pred].Arity > 0 {
			k.key = code.Key(g, g.Roots[0])
		}
		p.rules = append(p.rules, k)
	}
	return p, nil
}

// enterNames puts those names into a table that a trimmed graph has, whose nodes stand in the order of meeting.
func enterNames(t *names.Table, g api.Graph) error {
	for _, n := range g.Nodes {
		if n.Kind != api.KAtom && n.Kind != api.KComp {
			continue
		}
		if _, err := t.Put(n.Name); err != nil {
			return err
		}
	}
	return nil
}

// checkQuery is the fault for which a query's rule with these variables is refused.
func (p *program) checkQuery(r api.Rule, vars []string) error {
	g, err := graph.Trim(r.Graph)
	if err != nil || !p.isQuery(r, len(vars)) || !areVars(vars) {
		return fault(api.ErrTemplate)
	}
	return enterNames(p.names.Copy(), g)
}

// isQuery tells whether a rule, but for its graph, is a query's with so many variables.
func (p *program) isQuery(r api.Rule, vars int) bool {
	if r.Pred != -1 || len(r.Goals) > api.MaxGoals {
		return false
	}
	roots := vars
	for _, s := range r.Goals {
		if !p.isStep(s) {
			return false
		}
		roots += p.width(s)
	}
	return len(r.Graph.Roots) == roots
}

func (p *program) isStep(s api.Step) bool {
	switch s.Kind {
	case api.GoalCall:
		return s.Pred >= 0 && s.Pred < len(p.preds)
	case api.GoalEq, api.GoalDif:
		return s.Pred == -1
	}
	return false
}

// width is how many arguments a goal has; of an equation or a disequality the two sides.
func (p *program) width(s api.Step) int {
	if s.Kind == api.GoalCall {
		return p.preds[s.Pred].Arity
	}
	return 2
}

// areVars tells whether these are names of variables, each its own.
func areVars(list []string) bool {
	seen := map[string]struct{}{"_": {}}
	for _, name := range list {
		if _, barred := seen[name]; barred || !lex.IsVar(name) {
			return false
		}
		seen[name] = struct{}{}
	}
	return true
}
