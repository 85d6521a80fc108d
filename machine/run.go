package machine

import (
	"slices"
	"strings"

	"tendril/api"
	"tendril/store"
)

// The states of a run.
const (
	fresh    = iota // no step has been made
	going           // an alternative is to be taken
	answered        // no goal is to be done
	ended           // there is nothing to go back to
)

// run is a query as far as it was resolved.
type run struct {
	program *program
	store   *store.Store
	vars    []string
	cells   []int    // of the variables
	goals   []goal   // all that came to be and weren't given up, in this order
	todo    *row     // the goals to do, but for the one that is being done
	choices []choice // the goals with alternatives left; each has the store's point of its number
	pending func() (bool, error)
	state   int
	used    int
}

// goal is a goal with its proof, as far as it is known, and the cells of its arguments.
type goal struct {
	api.Proof
	cells []int
	above *call
}

// call is a call of a coinductive predicate above others, and those above it.
type call struct {
	goal, pred int
	rest       *call
}

// row is the goals to do: the number of the first one, and those behind it.
type row struct {
	goal int
	rest *row
}

// choice is a goal that has alternatives left, and what there was when it was done.
type choice struct {
	goal  int
	left  left
	goals int
	todo  *row
}

// begun is the run of a query whose rule is put down in a new store of a size.
func begun(p *program, max int, rule api.Rule, vars []string) (*run, error) {
	// That there are stores of this size was asked when the machine was made.
	s, _ := store.New(max)
	r := &run{program: p, store: s, vars: cloned(vars)}
	cells, err := r.put(rule.Graph)
	if err != nil {
		return nil, err
	}
	n := len(vars)
	// Cut off, so that whatever is put behind the variables' cells can't come into those of the goals.
	r.cells = cells[:n:n]
	r.enter(rule.Goals, cells[n:], -1, nil)
	return r, nil
}

// cloned is texts as new memory: a piece of a long source would hold all of that source.
func cloned(list []string) []string {
	var out []string
	for _, text := range list {
		out = append(out, strings.Clone(text))
	}
	return out
}

// enter lets the goals of a query, or of a clause that was taken for a call, come to be, ahead of those to do.
func (r *run) enter(steps []api.Step, cells []int, parent int, above *call) {
	first := len(r.goals)
	for place, s := range steps {
		n := r.program.width(s)
		proof := api.Proof{Kind: s.Kind, Pred: s.Pred, Parent: parent, Place: place, Rule: -1, Hyp: -1}
		r.goals = append(r.goals, goal{proof, cells[:n:n], above})
		cells = cells[n:]
	}
	for n := len(r.goals) - 1; n >= first; n-- {
		r.todo = &row{n, r.todo}
	}
}

// next makes steps up to an answer, to the end of all answers, or till the fuel is spent.
func (r *run) next(fuel int) (bool, error) {
	switch r.state {
	case fresh:
		r.state = going
		r.turn()
	case answered:
		r.state = going
		r.back()
	}
	for r.state == going {
		if fuel == 0 {
			return false, fault(api.ErrFuel)
		}
		ok, err := r.pending()
		if err != nil {
			return false, err
		}
		fuel--
		r.used++
		if ok {
			r.turn()
		} else {
			r.back()
		}
	}
	return r.state == answered, nil
}

// turn turns to the first goal to do.
func (r *run) turn() {
	if r.todo == nil {
		r.state = answered
		return
	}
	n := r.todo.goal
	r.todo = r.todo.rest
	switch r.goals[n].Kind {
	case api.GoalEq:
		r.pending = r.sides(n, r.store.Tell)
	case api.GoalDif:
		r.pending = r.sides(n, r.store.Differ)
	default:
		r.choose(n, r.alternatives(n))
	}
}

// choose turns to the first of those alternatives of a call that are left.
func (r *run) choose(n int, l left) {
	if l.none() {
		r.back()
		return
	}
	r.pending, l = r.first(n, l)
	if !l.none() {
		r.store.Point()
		r.choices = append(r.choices, choice{n, l, len(r.goals), r.todo})
	}
}

// back goes back to the goal that was done last of those that have an alternative left.
func (r *run) back() {
	last := len(r.choices) - 1
	if last < 0 {
		r.state = ended
		return
	}
	c := r.choices[last]
	r.choices = slices.Delete(r.choices, last, last+1)
	r.store.Undo(last)
	// The point is made anew, if another alternative is left behind the one that is taken now.
	r.store.Release(last)
	r.goals, r.todo = slices.Delete(r.goals, c.goals, len(r.goals)), c.todo
	r.choose(c.goal, c.left)
}
