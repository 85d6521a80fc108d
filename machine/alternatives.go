package machine

import (
	"slices"

	"tendril/api"
	"tendril/code"
)

// left is the alternatives of a call that are left.
type left struct {
	above   *call // the nearest call above of its predicate that is left, or nil
	clauses []int // the first one of which goes together with the key, or none
	key     api.Key
}

func (l left) none() bool { return l.above == nil && len(l.clauses) == 0 }

// alternatives is all that a call has.
func (r *run) alternatives(n int) left {
	g := r.goals[n]
	l := left{above: nearest(g.above, g.Pred), key: r.key(g.cells)}
	l.clauses = r.program.fitting(r.program.preds[g.Pred].Clauses, l.key)
	return l
}

// first is the first alternative of a call of which some are left, and the others.
func (r *run) first(n int, l left) (func() (bool, error), left) {
	if l.above != nil {
		above := l.above.goal
		l.above = nearest(l.above.rest, l.above.pred)
		return func() (bool, error) { return r.byCall(n, above), nil }, l
	}
	rule := l.clauses[0]
	l.clauses = r.program.fitting(l.clauses[1:], l.key)
	return func() (bool, error) { return r.byClause(n, rule) }, l
}

// sides is the one alternative of an equation or a disequality: what is told of its two sides. They are asked for when it is taken, since a compaction ahead of that moves them.
func (r *run) sides(n int, tell func(a, b int) (bool, error)) func() (bool, error) {
	return func() (bool, error) {
		cells := r.goals[n].cells
		return tell(cells[0], cells[1])
	}
}

// byCall does a call by one above it, if the two can be one.
func (r *run) byCall(n, above int) bool {
	if !r.one(r.goals[n].cells, r.goals[above].cells) {
		return false
	}
	// Both are told, since the call may have been done otherwise before one went back to it.
	r.goals[n].Rule, r.goals[n].Hyp = -1, above
	return true
}

// byClause does a call by a clause, if its head and the call can be one.
func (r *run) byClause(n, rule int) (bool, error) {
	k := r.program.rules[rule]
	cells, err := r.put(k.graph)
	if err != nil {
		return false, err
	}
	// Asked for behind the putting down, which may have moved them.
	g := r.goals[n]
	if !r.one(cells[:len(g.cells)], g.cells) {
		return false, nil
	}
	r.goals[n].Rule, r.goals[n].Hyp = rule, -1
	above := g.above
	if r.program.preds[g.Pred].Co {
		above = &call{n, g.Pred, above}
	}
	r.enter(k.goals, cells[len(g.cells):], n, above)
	return true, nil
}

// one tells cells to be one, pair by pair, as long as they can be.
func (r *run) one(list, others []int) bool {
	for i, cell := range list {
		if ok, _ := r.store.Tell(cell, others[i]); !ok {
			return false
		}
	}
	return true
}

// key is the key of the first of some cells as it is now.
func (r *run) key(cells []int) api.Key {
	if len(cells) == 0 {
		return api.Key{}
	}
	c, _ := r.store.Look(cells[0])
	if c.Kind == api.KVar {
		return api.Key{}
	}
	return api.Key{Kind: c.Kind, Name: c.Name, Num: c.Num, Arity: len(c.Args)}
}

// fitting is clauses from the first one on whose key goes together with this one. It is asked clause by clause, and not of code.Select, which would check the whole code at each call.
func (p *program) fitting(clauses []int, k api.Key) []int {
	fits := func(n int) bool { return code.Together(p.rules[n].key, k) }
	if i := slices.IndexFunc(clauses, fits); i >= 0 {
		return clauses[i:]
	}
	return nil
}

// nearest is the nearest of these calls that is one of a predicate, with those behind it; nil, if there is none. Those of inductive predicates are never among them.
func nearest(c *call, pred int) *call {
	for c != nil && c.pred != pred {
		c = c.rest
	}
	return c
}
