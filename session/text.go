package session

import (
	"slices"
	"strings"

	"tendril/api"
	"tendril/graph"
	"tendril/lex"
	"tendril/show"
)

// Show is an answer's text.
func (s *Session) Show(a api.Answer) (string, error) {
	if err := graph.Check(a.Graph); err != nil {
		return "", refused(api.ErrShow, err)
	}
	if !whole(a) {
		return "", refused(api.ErrShow, fault(api.ErrRoot))
	}
	return text(a), nil
}

// whole tells whether an answer has all the roots, and the names, of which its text is made.
func whole(a api.Answer) bool {
	left := len(a.Graph.Roots) - len(a.Vars)
	// Halved, since twice a great number of disequalities would leave the range.
	return left >= 0 && a.Difs <= left/2 && !slices.ContainsFunc(a.Vars, isNoVar)
}

func isNoVar(name string) bool { return !lex.IsVar(name) }

// text is the text of an answer that is whole and whose graph is good.
func text(a api.Answer) string {
	told := len(a.Vars) + 2*max(a.Difs, 0)
	if told == 0 {
		return "yes"
	}
	roots, where := parts(api.Graph{Nodes: a.Graph.Nodes, Roots: a.Graph.Roots[:told:told]})
	return strings.Join(pieces(a.Vars, roots), ", ") + where
}

// parts is what show.Text writes of a good graph with roots: root by root, and from the blank ahead of the word where on.
func parts(g api.Graph) ([]string, string) {
	all, _ := show.Text(g)
	roots := strings.SplitN(all, ", ", len(g.Roots))
	// No root has a blank in it: the first one behind the last root is that ahead of the word, which may be a root as well.
	last := len(roots) - 1
	root, where, named := strings.Cut(roots[last], " ")
	roots[last] = root
	if named {
		where = " " + where
	}
	return roots, where
}

// pieces is the roots with the words put in: the name of each variable, and dif of each two behind these.
func pieces(vars, roots []string) []string {
	var out []string
	for i, name := range vars {
		out = append(out, name+" = "+roots[i])
	}
	for pair := range slices.Chunk(roots[len(vars):], 2) {
		out = append(out, "dif("+strings.Join(pair, ", ")+")")
	}
	return out
}
