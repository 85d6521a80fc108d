package console

import (
	"strconv"

	"tendril/api"
	"tendril/show"
	"tendril/solve"
)

// usual is the budget where none is told.
const usual = 10000

// action carries out a command: it answers lines, and an error that is told behind them.
type action func(c *Console, l line) ([]string, error)

// commands is what carries out each command.
func commands() map[string]action {
	return map[string]action{
		"load":    (*Console).load,
		"ask":     (*Console).ask,
		"next":    (*Console).next,
		"all":     (*Console).all,
		"used":    (*Console).used,
		"compact": (*Console).compact,
		"preds":   (*Console).preds,
		"proof":   (*Console).proof,
		"show":    (*Console).show,
		"unify":   (*Console).unify,
		"differ":  (*Console).differ,
	}
}

func (c *Console) load(l line) ([]string, error) {
	return []string{Tell(c.talk().Load(l.rest))}, nil
}

func (c *Console) ask(l line) ([]string, error) {
	return []string{Tell(c.talk().Query(l.rest))}, nil
}

func (c *Console) next(l line) ([]string, error) {
	if l.rest == "" {
		return c.answers(1, usual)
	}
	budget, ok := number(l.rest)
	if !ok {
		return nil, l.fault(api.ErrArgument)
	}
	return c.answers(1, budget)
}

func (c *Console) all(l line) ([]string, error) {
	first, second := cut(l.rest)
	count, ok := number(first)
	budget, also := number(second)
	if !ok || !also {
		return nil, l.fault(api.ErrArgument)
	}
	return c.answers(count, budget)
}

// answers is the lines of the next answers, up to so many, and of their end.
func (c *Console) answers(count, budget int) ([]string, error) {
	var out []string
	for range count {
		text, ok, err := c.talk().Next(budget)
		if err != nil {
			return out, err
		}
		if !ok {
			return append(out, "no"), nil
		}
		out = append(out, text)
	}
	return out, nil
}

func (c *Console) used(l line) ([]string, error) {
	if err := l.bare(); err != nil {
		return nil, err
	}
	return []string{strconv.Itoa(c.talk().Used())}, nil
}

func (c *Console) compact(l line) ([]string, error) {
	if err := l.bare(); err != nil {
		return nil, err
	}
	n, err := c.talk().Compact()
	if err != nil {
		return nil, err
	}
	return []string{strconv.Itoa(n)}, nil
}

func (c *Console) preds(l line) ([]string, error) {
	if err := l.bare(); err != nil {
		return nil, err
	}
	return c.talk().Preds(), nil
}

func (c *Console) proof(l line) ([]string, error) {
	if err := l.bare(); err != nil {
		return nil, err
	}
	a, err := c.talk().Answer()
	if err != nil {
		return nil, err
	}
	return proofs(a.Proofs, c.talk().Preds()), nil
}

func (c *Console) show(l line) ([]string, error) {
	g, err := show.Read(l.rest)
	if err != nil {
		return nil, err
	}
	return shown(g)
}

func (c *Console) unify(l line) ([]string, error) {
	g, pairs, err := twoRoots(l)
	if err != nil {
		return nil, err
	}
	solved, ok, err := solve.Solve(g, pairs)
	if err != nil {
		return nil, err
	}
	if !ok {
		return []string{"no"}, nil
	}
	return shown(solved)
}

func (c *Console) differ(l line) ([]string, error) {
	g, pairs, err := twoRoots(l)
	if err != nil {
		return nil, err
	}
	v, err := solve.Verdict(g, pairs)
	if err != nil {
		return nil, err
	}
	return []string{verdict(v.Kind)}, nil
}

// twoRoots is the graph that a line's rest tells, and the pair of its two roots.
func twoRoots(l line) (api.Graph, [][2]int, error) {
	g, err := show.Read(l.rest)
	if err != nil {
		return api.Graph{}, nil, err
	}
	if len(g.Roots) != 2 {
		return api.Graph{}, nil, l.fault(api.ErrArgument)
	}
	return g, [][2]int{{g.Roots[0], g.Roots[1]}}, nil
}
