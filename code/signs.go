package code

import (
	"strconv"
	"strings"

	"tendril/api"
	"tendril/lex"
	"tendril/names"
)

// dif is the name whose goals with two arguments are disequalities, not calls.
const dif = "dif"

// sign is what a predicate is found by.
type sign struct {
	name  string
	arity int
}

// signOf is the sign of the predicate of an atom or a compound.
func signOf(e api.Expr) sign { return sign{e.Name, len(e.Args)} }

// good tells whether a predicate may have this sign.
func (s sign) good() bool {
	return names.Good(s.name) && s.arity >= 0 && s.arity <= api.MaxArity && s != sign{dif, 2}
}

// text is the sign as it is written.
func (s sign) text() string { return lex.Quote(s.name) + "/" + strconv.Itoa(s.arity) }

// list is predicates by number, and their numbers by their signs.
type list struct {
	preds  []api.Pred
	number map[sign]int
}

func newList() *list { return &list{number: map[sign]int{}} }

// listOf is the list of a good code's predicates, to find them in alone.
func listOf(preds []api.Pred) *list {
	l := newList()
	for i, p := range preds {
		l.number[sign{p.Name, p.Arity}] = i
	}
	return l
}

// declare adds what is declared, up to the first declaration that may not be.
func (l *list) declare(decls []api.Decl) error {
	for i, d := range decls {
		s := sign{d.Name, d.Arity}
		_, twice := l.number[s]
		if twice || !s.good() {
			return fault(api.ErrDecl, i)
		}
		l.add(s, true)
	}
	return nil
}

// enter gives a clause to the predicate of its head, and is the predicate's number.
func (l *list) enter(s sign, clause int) int {
	n, known := l.number[s]
	if !known {
		n = l.add(s, false)
	}
	l.preds[n].Clauses = append(l.preds[n].Clauses, clause)
	return n
}

func (l *list) add(s sign, co bool) int {
	n := len(l.preds)
	l.number[s] = n
	// A name that is a piece of a long source would hold all of that source in memory.
	l.preds = append(l.preds, api.Pred{Name: strings.Clone(s.name), Arity: s.arity, Co: co})
	return n
}

// step is a good goal compiled; its fault, if it calls a predicate that isn't there, is told at a place.
func (l *list) step(g api.Goal, at int) (api.Step, error) {
	if g.Kind != api.GoalCall {
		return api.Step{Kind: g.Kind, Pred: -1}, nil
	}
	s := signOf(g.A)
	n, known := l.number[s]
	if !known {
		return api.Step{}, &api.Fault{Code: api.ErrUnknown, At: at, Name: s.text()}
	}
	return api.Step{Kind: g.Kind, Pred: n}, nil
}
