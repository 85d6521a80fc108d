package parse

import (
	"slices"
	"strconv"
	"strings"

	"tendril/api"
	"tendril/lex"
	"tendril/names"
)

// Good tells whether a written term is good.
func Good(e api.Expr) bool { return goodAt(e, 0) }

// Write is a written term's text.
func Write(e api.Expr) (string, bool) {
	if !Good(e) {
		return "", false
	}
	var out strings.Builder
	write(&out, e)
	return out.String(), true
}

// Line is a clause's text.
func Line(c api.Clause) (string, bool) {
	bad := func(g api.Goal) bool { return !goodGoal(g) }
	if !callable(c.Head) || slices.ContainsFunc(c.Body, bad) {
		return "", false
	}
	var out strings.Builder
	write(&out, c.Head)
	ahead := " :- "
	for _, g := range c.Body {
		out.WriteString(ahead)
		writeGoal(&out, g)
		ahead = ", "
	}
	out.WriteByte('.')
	return out.String(), true
}

// goodAt tells whether a term that stands in so many compounds is good. A term that holds itself comes to an end at MaxNest, too.
func goodAt(e api.Expr, nest int) bool {
	if nest > api.MaxNest {
		return false
	}
	switch e.Kind {
	case api.KVar:
		return lex.IsVar(e.Name) && e.Num == 0 && len(e.Args) == 0
	case api.KAtom:
		return names.Good(e.Name) && e.Num == 0 && len(e.Args) == 0
	case api.KInt:
		return e.Name == "" && e.Num >= -api.MaxInt && e.Num <= api.MaxInt && len(e.Args) == 0
	case api.KComp:
		return names.Good(e.Name) && e.Num == 0 && goodArgs(e.Args, nest+1)
	}
	return false
}

func goodArgs(args []api.Expr, nest int) bool {
	bad := func(e api.Expr) bool { return !goodAt(e, nest) }
	return len(args) >= 1 && len(args) <= api.MaxArity && !slices.ContainsFunc(args, bad)
}

func goodGoal(g api.Goal) bool {
	switch g.Kind {
	case api.GoalCall:
		return callable(g.A) && !isComp(g.A, dif, 2) && isZero(g.B)
	case api.GoalEq, api.GoalDif:
		return Good(g.A) && Good(g.B)
	}
	return false
}

// callable tells whether a term can be read again as a head or, but for dif, as a call.
func callable(e api.Expr) bool {
	switch e.Kind {
	case api.KAtom:
		return Good(e) && e.Name != api.Nil
	case api.KComp:
		return Good(e) && !isPair(e)
	}
	return false
}

func isZero(e api.Expr) bool {
	return e.Kind == 0 && e.Name == "" && e.Num == 0 && len(e.Args) == 0
}

// isPair tells whether a term is what lists are made of.
func isPair(e api.Expr) bool { return isComp(e, api.Cons, 2) }

func isComp(e api.Expr, name string, arity int) bool {
	return e.Kind == api.KComp && e.Name == name && len(e.Args) == arity
}

// write is for good terms alone.
func write(out *strings.Builder, e api.Expr) {
	switch {
	case e.Kind == api.KVar:
		out.WriteString(e.Name)
	case e.Kind == api.KInt:
		out.WriteString(strconv.Itoa(e.Num))
	case isNil(e):
		out.WriteString("[]")
	case isPair(e):
		writeList(out, e)
	default:
		out.WriteString(lex.Quote(e.Name))
		writeArgs(out, e.Args)
	}
}

func isNil(e api.Expr) bool { return e.Kind == api.KAtom && e.Name == api.Nil }

func writeList(out *strings.Builder, e api.Expr) {
	ahead := "["
	for ; isPair(e); e = e.Args[1] {
		out.WriteString(ahead)
		write(out, e.Args[0])
		ahead = ","
	}
	if !isNil(e) {
		out.WriteByte('|')
		write(out, e)
	}
	out.WriteByte(']')
}

// writeArgs is the arguments in their parentheses, or nothing of an atom.
func writeArgs(out *strings.Builder, args []api.Expr) {
	ahead := "("
	for _, a := range args {
		out.WriteString(ahead)
		write(out, a)
		ahead = ","
	}
	if len(args) > 0 {
		out.WriteByte(')')
	}
}

func writeGoal(out *strings.Builder, g api.Goal) {
	switch g.Kind {
	case api.GoalCall:
		write(out, g.A)
	case api.GoalEq:
		write(out, g.A)
		out.WriteString(" = ")
		write(out, g.B)
	case api.GoalDif:
		out.WriteString(dif)
		writeArgs(out, []api.Expr{g.A, g.B})
	}
}
