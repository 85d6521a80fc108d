package session_test

import (
	"slices"
	"strconv"
	"strings"
	"testing"

	"tendril/api"
	"tendril/parse"
	"tendril/tie"
)

// leastOf is the least graph of a good graph: nodes are parted by trees that are cut off deeper and deeper, and the classes are numbered as they are met.
func leastOf(g api.Graph) api.Graph {
	classes := classesOf(g)
	var out api.Graph
	place := map[int]int{}
	var meet func(node int) int
	meet = func(node int) int {
		if at, ok := place[classes[node]]; ok {
			return at
		}
		m, at := g.Nodes[node], len(out.Nodes)
		place[classes[node]] = at
		out.Nodes = append(out.Nodes, api.Node{Kind: m.Kind, Name: m.Name, Num: m.Num})
		for _, arg := range m.Args {
			to := meet(arg)
			out.Nodes[at].Args = append(out.Nodes[at].Args, to)
		}
		return at
	}
	for _, r := range g.Roots {
		out.Roots = append(out.Roots, meet(r))
	}
	return out
}

func classesOf(g api.Graph) []int {
	now := make([]int, len(g.Nodes))
	for count := 0; ; {
		known, next := map[string]int{}, make([]int, len(g.Nodes))
		for i, m := range g.Nodes {
			key := strconv.Itoa(m.Kind) + strconv.Quote(m.Name) + strconv.Itoa(m.Num)
			if m.Kind == kVar {
				key += "at " + strconv.Itoa(i)
			}
			for _, arg := range m.Args {
				key += " " + strconv.Itoa(now[arg])
			}
			if _, ok := known[key]; !ok {
				known[key] = len(known)
			}
			next[i] = known[key]
		}
		now = next
		if len(known) == count {
			return now
		}
		count = len(known)
	}
}

// rootsOf is the graph of those roots of an answer that its text tells.
func rootsOf(a api.Answer) api.Graph {
	return api.Graph{Nodes: a.Graph.Nodes, Roots: a.Graph.Roots[:len(a.Vars)+2*max(a.Difs, 0)]}
}

// textOf is the text that the chapter gives an answer that has one.
func textOf(a api.Answer) string {
	w := writerOf(leastOf(rootsOf(a)))
	var pieces, rights []string
	for i, name := range a.Vars {
		pieces = append(pieces, name+" = "+w.node(w.q.Roots[i]))
	}
	for at := len(a.Vars); at < len(w.q.Roots); at += 2 {
		pieces = append(pieces, "dif("+w.node(w.q.Roots[at])+", "+w.node(w.q.Roots[at+1])+")")
	}
	if len(pieces) == 0 {
		return "yes"
	}
	for i, m := range w.q.Nodes {
		if m.Kind == kComp && w.names[i] != "" {
			rights = append(rights, w.names[i]+" = "+w.comp(i))
		}
	}
	out := strings.Join(pieces, ", ")
	if len(rights) > 0 {
		out += " where " + strings.Join(rights, ", ")
	}
	return out
}

// writer writes nodes of a least graph, some of which have names.
type writer struct {
	q     api.Graph
	names []string
}

func writerOf(q api.Graph) writer {
	led := make([]int, len(q.Nodes))
	for _, m := range q.Nodes {
		for _, arg := range m.Args {
			led[arg]++
		}
	}
	for _, r := range q.Roots {
		led[r] += 2
	}
	names := make([]string, len(q.Nodes))
	eqs, vars := 0, 0
	for i, m := range q.Nodes {
		switch {
		case m.Kind == kVar:
			vars++
			names[i] = "V" + strconv.Itoa(vars)
		case m.Kind == kComp && led[i] > 1:
			eqs++
			names[i] = "E" + strconv.Itoa(eqs)
		}
	}
	return writer{q, names}
}

func (w writer) node(i int) string {
	if w.names[i] != "" {
		return w.names[i]
	}
	m := w.q.Nodes[i]
	switch {
	case m.Kind == kInt:
		return strconv.Itoa(m.Num)
	case m.Kind == kAtom && m.Name == "[]":
		return "[]"
	case m.Kind == kAtom:
		return quoted(m.Name)
	}
	return w.comp(i)
}

func (w writer) comp(i int) string {
	m := w.q.Nodes[i]
	if m.Name == "." && len(m.Args) == 2 {
		return "[" + w.node(m.Args[0]) + w.rest(m.Args[1]) + "]"
	}
	var args []string
	for _, arg := range m.Args {
		args = append(args, w.node(arg))
	}
	return quoted(m.Name) + "(" + strings.Join(args, ",") + ")"
}

// rest is what stands in a list behind an element.
func (w writer) rest(i int) string {
	m := w.q.Nodes[i]
	if w.names[i] == "" && m.Kind == kComp && m.Name == "." && len(m.Args) == 2 {
		return "," + w.node(m.Args[0]) + w.rest(m.Args[1])
	}
	if m.Kind == kAtom && m.Name == "[]" {
		return ""
	}
	return "|" + w.node(i)
}

func quoted(name string) string {
	other := func(r rune) bool {
		return !(r >= 'a' && r <= 'z' || r >= 'A' && r <= 'Z' || r >= '0' && r <= '9' || r == '_')
	}
	if name[0] >= 'a' && name[0] <= 'z' && !strings.ContainsFunc(name, other) {
		return name
	}
	return "'" + strings.NewReplacer("'", "\\'", "\\", "\\\\").Replace(name) + "'"
}

// readBack is what an answer's text says, read as terms: the names, and the graph of what stands behind each = and of the two of each dif, with the equations. What stands ahead of the equations is read as a query: its goals are equations and disequalities. The third result tells whether the text is small enough to be read.
func readBack(text string) ([]string, api.Graph, bool) {
	if text == "yes" {
		return nil, api.Graph{}, true
	}
	var x api.Terms
	if at := strings.LastIndex(text, " where "); at >= 0 {
		eqs, err := parse.Terms("a" + text[at:])
		if err != nil {
			panic(text + ": " + err.Error())
		}
		text, x.Eqs = text[:at], eqs.Eqs
	}
	var names []string
	for _, g := range goalsOf(text) {
		if g.Kind == 2 {
			names = append(names, g.A.Name)
		} else {
			x.Roots = append(x.Roots, g.A)
		}
		x.Roots = append(x.Roots, g.B)
	}
	g, err := tie.Read(x)
	if f, ok := err.(*api.Fault); ok && f.Code == errBig {
		return nil, api.Graph{}, false
	}
	if err != nil {
		panic(text + ": " + err.Error())
	}
	return names, g, true
}

func goalsOf(text string) []api.Goal {
	goals, err := parse.Query(text + ".")
	if err != nil {
		panic(text + ": " + err.Error())
	}
	for i, g := range goals {
		if g.Kind != 2 && g.Kind != 3 || g.Kind == 2 && (g.A.Kind != kVar || i > 0 && goals[i-1].Kind == 3) {
			panic(text + ": a piece that is none")
		}
	}
	return goals
}

// wantReadBack stops the test unless an answer's text, read as terms, is the least graph of its roots.
func wantReadBack(t *testing.T, a api.Answer, text string) {
	t.Helper()
	names, g, small := readBack(text)
	if !small {
		return
	}
	if want := leastOf(rootsOf(a)); telling(g) != telling(want) || !slices.Equal(names, a.Vars) {
		t.Fatalf("%s is read as %s of %q, want %s of %q", short(text), short(telling(g)), names, short(telling(want)), a.Vars)
	}
}

// telling is all that a graph says.
func telling(g api.Graph) string {
	var out strings.Builder
	for _, m := range g.Nodes {
		out.WriteString(strconv.Itoa(m.Kind) + " " + strconv.Quote(m.Name) + " " + strconv.Itoa(m.Num))
		for _, arg := range m.Args {
			out.WriteString(" " + strconv.Itoa(arg))
		}
		out.WriteString("; ")
	}
	out.WriteString("roots")
	for _, r := range g.Roots {
		out.WriteString(" " + strconv.Itoa(r))
	}
	return out.String()
}

// tellingAnswer is all that an answer says.
func tellingAnswer(a api.Answer) string {
	out := strings.Join(a.Vars, " ") + ", " + strconv.Itoa(a.Difs) + " open, " + telling(a.Graph)
	for i, p := range a.Proofs {
		out += "; " + strconv.Itoa(i) + ":"
		for _, k := range []int{p.Kind, p.Pred, p.Parent, p.Place, p.Rule, p.Hyp, p.First, p.Count} {
			out += " " + strconv.Itoa(k)
		}
	}
	return out
}
