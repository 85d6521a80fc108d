package machine_test

import (
	"slices"
	"strconv"
	"strings"
	"testing"

	"tendril/api"
	"tendril/bisim"
	"tendril/graph"
	"tendril/solve"
)

// world is how all is at one moment, as data: no store is in it. Each attempt makes one of its own.
type world struct {
	g     api.Graph // its roots are the query's variables, then the arguments of each goal
	vars  int
	difs  [][2]int    // those that are open: places among the roots
	goals []api.Proof // First and Count tell places among the roots
	above [][]int     // of each goal: the calls above it, the nearest first
	todo  []int
}

// what comes behind so many attempts.
type event struct {
	kind   int
	used   int
	answer api.Answer
}

const (
	isAnswer = iota
	isEnd
	isTooManyDifs
)

// oracle goes through the chapter's words: the first goal's alternatives one after the other, each with all that comes behind it. Layer 10 says what is told.
type oracle struct {
	code   api.Code
	most   int // so many attempts are made
	used   int
	over   bool
	events []event
	then   []string // of each attempt, and of what would be the next one: how all was ahead of it
	wants  []int    // of each of these: how many words its clause wants, or 0
}

// foretold is what becomes of a query in so many attempts at most.
func foretold(x api.Code, r api.Rule, names []string, most int) *oracle {
	o := &oracle{code: x, most: most}
	g, err := bisim.Quotient(r.Graph)
	if err != nil {
		panic(err)
	}
	w := world{g: g, vars: len(names)}
	w.enter(o, r.Goals, len(names), -1, nil)
	o.goOn(w)
	if !o.over {
		o.events = append(o.events, event{kind: isEnd, used: o.used})
	}
	return o
}

// enter adds goals whose arguments stand among the roots from a place on, ahead of the goals to do.
func (w *world) enter(o *oracle, steps []api.Step, at, parent int, above []int) {
	var fresh []int
	w.goals, w.above = slices.Clone(w.goals), slices.Clone(w.above)
	for i, s := range steps {
		count := 2
		if s.Kind == call {
			count = o.code.Preds[s.Pred].Arity
		}
		fresh = append(fresh, len(w.goals))
		w.goals = append(w.goals, api.Proof{Kind: s.Kind, Pred: s.Pred, Parent: parent, Place: i, Rule: -1, Hyp: -1, First: at, Count: count})
		w.above = append(w.above, above)
		at += count
	}
	w.todo = append(fresh, w.todo...)
}

// attempt tells whether one more may be made, and counts it.
func (o *oracle) attempt(w world, words int) bool {
	if o.over {
		return false
	}
	o.then, o.wants = append(o.then, w.text()), append(o.wants, words)
	if o.used == o.most {
		o.over = true
		return false
	}
	o.used++
	return true
}

// goOn is all that comes behind a moment.
func (o *oracle) goOn(w world) {
	if o.over {
		return
	}
	if len(w.todo) == 0 {
		o.events = append(o.events, event{isAnswer, o.used, w.answer()})
		return
	}
	n := w.todo[0]
	next := w
	next.todo = w.todo[1:]
	g := w.goals[n]
	switch g.Kind {
	case eq:
		if o.attempt(w, 0) && next.tell(g.First, g.First+1) {
			o.goOn(next)
		}
	case dif:
		o.differ(w, next, g)
	default:
		o.call(w, next, n)
	}
}

func (o *oracle) differ(w, next world, g api.Proof) {
	kind := w.verdict(g.First, g.First+1)
	if kind == isOpen && len(w.difs) == mostDifs && !o.over && o.used < o.most {
		o.then, o.wants = append(o.then, w.text()), append(o.wants, 0)
		o.events = append(o.events, event{kind: isTooManyDifs, used: o.used})
		o.over = true
		return
	}
	if !o.attempt(w, 0) || kind == isSame {
		return
	}
	if kind == isOpen {
		next.difs = append(slices.Clone(w.difs), [2]int{g.First, g.First + 1})
	}
	o.goOn(next)
}

// call goes through the alternatives of a call.
func (o *oracle) call(w, next world, n int) {
	g := w.goals[n]
	pred := o.code.Preds[g.Pred]
	if pred.Co {
		for _, above := range w.above[n] {
			if w.goals[above].Pred != g.Pred || !o.attempt(w, 0) {
				continue
			}
			if x := next; x.tellAll(w.goals[above].First, g.First, g.Count) {
				x.goals = slices.Clone(x.goals)
				x.goals[n].Hyp = above
				o.goOn(x)
			}
		}
	}
	for _, number := range pred.Clauses {
		r := o.code.Rules[number]
		if g.Count > 0 && unlikeHeads(w.g.Nodes[w.g.Roots[g.First]], r.Graph.Nodes[r.Graph.Roots[0]]) || !o.attempt(w, words(r.Graph)) {
			continue
		}
		x, at := next, len(w.g.Roots)
		joined, err := graph.Join(w.g, r.Graph)
		if err != nil {
			panic(err)
		}
		x.g = joined
		if !x.tellAll(at, g.First, g.Count) {
			continue
		}
		x.g.Roots = slices.Delete(slices.Clone(x.g.Roots), at, at+g.Count)
		x.goals = slices.Clone(x.goals)
		x.goals[n].Rule = number
		above := w.above[n]
		if pred.Co {
			above = append([]int{n}, above...)
		}
		x.enter(o, r.Goals, at, n, above)
		o.goOn(x)
	}
}

// unlikeHeads tells whether two nodes can't be one by what they say without their arguments.
func unlikeHeads(x, y api.Node) bool {
	return x.Kind != kVar && y.Kind != kVar && (x.Kind != y.Kind || x.Name != y.Name || x.Num != y.Num || len(x.Args) != len(y.Args))
}

// words is how many words a graph wants.
func words(g api.Graph) int {
	met, err := graph.Reach(g)
	if err != nil {
		panic(err)
	}
	count := len(g.Roots)
	for _, n := range met {
		switch g.Nodes[n].Kind {
		case kVar:
			count++
		case kComp:
			count += 1 + len(g.Nodes[n].Args)
		}
	}
	return count
}

// tell tells two roots to be one.
func (w *world) tell(one, other int) bool {
	g, ok, err := solve.Solve(w.g, [][2]int{{w.g.Roots[one], w.g.Roots[other]}})
	if err != nil {
		panic(err)
	}
	if !ok {
		return false
	}
	w.g = g
	var open [][2]int
	for _, pair := range w.difs {
		switch w.verdict(pair[0], pair[1]) {
		case isSame:
			return false
		case isOpen:
			open = append(open, pair)
		}
	}
	w.difs = open
	return true
}

// tellAll tells so many roots from one place on to be one with those from another place on.
func (w *world) tellAll(one, other, count int) bool {
	for i := range count {
		if !w.tell(one+i, other+i) {
			return false
		}
	}
	return true
}

func (w world) verdict(one, other int) int {
	found, err := solve.Verdict(w.g, [][2]int{{w.g.Roots[one], w.g.Roots[other]}})
	if err != nil {
		panic(err)
	}
	return found.Kind
}

// ordered is the least graph of the variables, the open disequalities and the goals' arguments.
func (w world) ordered() api.Graph {
	out := api.Graph{Nodes: w.g.Nodes, Roots: slices.Clone(w.g.Roots[:w.vars])}
	for _, pair := range w.difs {
		out.Roots = append(out.Roots, w.g.Roots[pair[0]], w.g.Roots[pair[1]])
	}
	out.Roots = append(out.Roots, w.g.Roots[w.vars:]...)
	out, err := bisim.Quotient(out)
	if err != nil {
		panic(err)
	}
	return out
}

// text is all that the cells hold.
func (w world) text() string { return strconv.Itoa(len(w.difs)) + " open, " + telling(w.ordered()) }

func (w world) answer() api.Answer {
	out := api.Answer{Graph: w.ordered(), Difs: len(w.difs)}
	for _, p := range w.goals {
		p.First += 2 * len(w.difs)
		out.Proofs = append(out.Proofs, p)
	}
	return out
}

// Words of a store are spelt here as numbers, apart from package word: a value times 8, and the tag.
const (
	tagRef  = 0
	tagAtom = 1
	tagInt  = 2
	tagStr  = 3
	tagFun  = 4
	tagFwd  = 5
)

func tagOf(w uint64) int   { return int(w % 8) }
func valueOf(w uint64) int { return int(int64(w) >> 3) }

// laidOpen is a store as its dump tells it, read by the words of chapter 11.
type laidOpen struct{ api.Dump }

func (m laidOpen) cell(at int) bool {
	return at >= 0 && at < len(m.Words) && tagOf(m.Words[at]) <= tagStr
}

// held is the tag and the value of what a cell holds: a free variable's place, a name's number, an integer, a functor's place.
func (m laidOpen) held(at int) [2]int {
	value := valueOf(m.Words[at])
	switch tagOf(m.Words[at]) {
	case tagRef:
		if value != at {
			return m.held(value)
		}
	case tagStr:
		for tagOf(m.Words[value]) == tagFwd {
			value = valueOf(m.Words[value])
		}
	}
	return [2]int{tagOf(m.Words[at]), value}
}

// graph is the least graph of what cells hold.
func (m laidOpen) graph(cells []int) api.Graph {
	var out api.Graph
	place := map[[2]int]int{}
	var todo [][2]int
	meet := func(at int) int {
		x := m.held(at)
		if _, ok := place[x]; !ok {
			place[x] = len(todo)
			todo = append(todo, x)
		}
		return place[x]
	}
	for _, at := range cells {
		out.Roots = append(out.Roots, meet(at))
	}
	for i := 0; i < len(todo); i++ {
		node := api.Node{Kind: kVar}
		switch value := todo[i][1]; todo[i][0] {
		case tagAtom:
			node = api.Node{Kind: kAtom, Name: m.Names[value]}
		case tagInt:
			node = api.Node{Kind: kInt, Num: value}
		case tagStr:
			fun := valueOf(m.Words[value])
			node = api.Node{Kind: kComp, Name: m.Names[fun/16]}
			for k := range fun % 16 {
				node.Args = append(node.Args, meet(value+1+k))
			}
		}
		out.Nodes = append(out.Nodes, node)
	}
	out, err := bisim.Quotient(out)
	if err != nil {
		panic(err)
	}
	return out
}

// text is what a machine's cells hold, told as a world tells it; the roots are so many variables and the goals' arguments.
func (m laidOpen) text(roots []int, vars int) string {
	cells := slices.Clone(roots[:vars])
	for _, pair := range m.Difs {
		cells = append(cells, pair[0], pair[1])
	}
	cells = append(cells, roots[vars:]...)
	return strconv.Itoa(len(m.Difs)) + " open, " + telling(m.graph(cells))
}

// unsound is what P11.3 says of the words and isn't so, or the empty text.
func (m laidOpen) unsound() string {
	tag := func(at int) int {
		if at < 0 || at >= len(m.Words) {
			return -1
		}
		return tagOf(m.Words[at])
	}
	for at, w := range m.Words {
		value, ok := valueOf(w), false
		switch tagOf(w) {
		case tagRef:
			ok = m.cell(value)
		case tagAtom:
			ok = value >= 0 && value < len(m.Names)
		case tagInt:
			ok = value >= -great && value <= great
		case tagStr, tagFwd:
			ok = tag(value) == tagFun || tag(value) == tagFwd
		case tagFun:
			ok = value >= 0 && value/16 < len(m.Names) && value%16 >= 1 && value%16 <= widest
			for i := 1; i <= value%16; i++ {
				ok = ok && m.cell(at+i)
			}
		}
		if !ok {
			return "the word at " + strconv.Itoa(at) + " may not stand there"
		}
	}
	for at := range m.Words {
		for steps, to := 0, at; tagOf(m.Words[to]) == tagFwd || tagOf(m.Words[to]) == tagRef && valueOf(m.Words[to]) != to; steps++ {
			if steps > len(m.Words) {
				return "following from " + strconv.Itoa(at) + " doesn't end"
			}
			to = valueOf(m.Words[to])
		}
	}
	return ""
}

// reaches is the places of the words that a word reaches which stands at a place.
func reaches(at int, w uint64) []int {
	value := valueOf(w)
	switch tagOf(w) {
	case tagRef, tagStr, tagFwd:
		return []int{value}
	case tagFun:
		var out []int
		for i := 1; i <= value%16; i++ {
			out = append(out, at+i)
		}
		return out
	}
	return nil
}

// wanted is how many words are wanted by the words of chapter 15.
func (m laidOpen) wanted(roots []int) int {
	met := make([]bool, len(m.Words))
	var todo []int
	meet := func(list ...int) {
		for _, at := range list {
			if !met[at] {
				met[at] = true
				todo = append(todo, at)
			}
		}
	}
	meet(roots...)
	for _, pair := range m.Difs {
		meet(pair[:]...)
	}
	for _, mark := range m.Marks {
		for _, pair := range mark.Difs {
			meet(pair[:]...)
		}
	}
	was := map[int][]uint64{}
	for _, s := range m.Trail {
		was[s.At] = append(was[s.At], s.Old)
	}
	for i := 0; i < len(todo); i++ {
		at := todo[i]
		for _, w := range append(was[at], m.Words[at]) {
			meet(reaches(at, w)...)
		}
	}
	return len(todo)
}

// notProved is what P18.3 says of an answer to a query's rule and isn't so, or the empty text. It asks the answer alone.
func notProved(x api.Code, r api.Rule, a api.Answer) string {
	if err := graph.Check(a.Graph); err != nil {
		return "the graph isn't good: " + err.Error()
	}
	at := len(a.Vars)
	var difs [][2]int
	for range a.Difs {
		difs = append(difs, [2]int{a.Graph.Roots[at], a.Graph.Roots[at+1]})
		at += 2
	}
	below := make([][]int, len(a.Proofs)) // of each goal: those whose Parent it is, Place by Place
	var asked []int
	args := make([][]int, len(a.Proofs))
	for i, p := range a.Proofs {
		if p.First != at || p.Count < 0 || at+p.Count > len(a.Graph.Roots) {
			return "its arguments lie elsewhere: " + strconv.Itoa(i)
		}
		at += p.Count
		args[i] = a.Graph.Roots[p.First:at]
		list := &asked
		if p.Parent >= 0 {
			list = &below[p.Parent]
		}
		if p.Parent < -1 || p.Parent >= i || p.Place != len(*list) {
			return "it stands elsewhere: " + strconv.Itoa(i)
		}
		*list = append(*list, i)
	}
	if at != len(a.Graph.Roots) {
		return "there are too many roots"
	}
	for i, p := range a.Proofs {
		if why := notDone(x, a, args, below, i); why != "" {
			return why + ": " + strconv.Itoa(i) + " of the kind " + strconv.Itoa(p.Kind)
		}
	}
	for _, pair := range difs {
		if pair[0] == pair[1] {
			return "the two of an open disequality are one"
		}
	}
	return notInstance(r, a, a.Graph.Roots[:len(a.Vars)], args, asked)
}

// notDone is why a goal of an answer isn't proved, or the empty text.
func notDone(x api.Code, a api.Answer, args, below [][]int, i int) string {
	p := a.Proofs[i]
	if p.Kind != call {
		switch {
		case p.Pred != -1 || p.Rule != -1 || p.Hyp != -1 || len(below[i]) > 0 || len(args[i]) != 2:
			return "it says too much"
		case p.Kind == eq && args[i][0] != args[i][1]:
			return "the two sides aren't one"
		case p.Kind == dif && args[i][0] == args[i][1]:
			return "the two sides are one"
		case p.Kind != eq && p.Kind != dif:
			return "it is of no kind"
		}
		return ""
	}
	if p.Pred < 0 || p.Pred >= len(x.Preds) || p.Count != x.Preds[p.Pred].Arity {
		return "it isn't called so"
	}
	if p.Rule >= 0 {
		if p.Hyp != -1 || !slices.Contains(x.Preds[p.Pred].Clauses, p.Rule) {
			return "that is none of its clauses"
		}
		return notInstance(x.Rules[p.Rule], a, args[i], args, below[i])
	}
	if p.Rule != -1 || p.Hyp < 0 || len(below[i]) > 0 {
		return "it has no proof"
	}
	for above := p.Parent; ; above = a.Proofs[above].Parent {
		if above == -1 {
			return "that isn't above it"
		}
		if above == p.Hyp {
			break
		}
	}
	if a.Proofs[p.Hyp].Pred != p.Pred || !x.Preds[p.Pred].Co || !slices.Equal(args[i], args[p.Hyp]) {
		return "that isn't the same"
	}
	return ""
}

// notInstance is why a head's arguments with those of goals aren't an instance of a rule, or the empty text.
func notInstance(r api.Rule, a api.Answer, head []int, args [][]int, goals []int) string {
	if len(goals) != len(r.Goals) {
		return "there are not as many goals"
	}
	t := api.Graph{Nodes: a.Graph.Nodes, Roots: slices.Clone(head)}
	for place, n := range goals {
		if p := a.Proofs[n]; p.Kind != r.Goals[place].Kind || p.Pred != r.Goals[place].Pred {
			return "it has other goals"
		}
		t.Roots = append(t.Roots, args[n]...)
	}
	if is, err := solve.Instance(r.Graph, t); !is || err != nil {
		return "it is no instance of the rule"
	}
	return ""
}

// short is a text as it is told when a test fails.
func short(s string) string {
	if len(s) > 900 {
		return s[:900] + ".. of " + strconv.Itoa(len(s)) + " bytes"
	}
	return s
}

// telling is all that a graph says.
func telling(g api.Graph) string {
	var out strings.Builder
	for _, m := range g.Nodes {
		out.WriteString(strconv.Itoa(m.Kind) + " " + strconv.Quote(m.Name) + " " + strconv.Itoa(m.Num))
		for _, arg := range m.Args {
			out.WriteString(" " + strconv.Itoa(arg))
		}
		out.WriteString("; ")
	}
	out.WriteString("roots")
	for _, r := range g.Roots {
		out.WriteString(" " + strconv.Itoa(r))
	}
	return out.String()
}

// tellingAnswer is all that an answer says.
func tellingAnswer(a api.Answer) string {
	out := strings.Join(a.Vars, " ") + ", " + strconv.Itoa(a.Difs) + " open, " + telling(a.Graph)
	for i, p := range a.Proofs {
		out += "; " + strconv.Itoa(i) + ":"
		for _, k := range []int{p.Kind, p.Pred, p.Parent, p.Place, p.Rule, p.Hyp, p.First, p.Count} {
			out += " " + strconv.Itoa(k)
		}
	}
	return out
}

// The oracle itself, by the chapter's examples.
func TestOracle(t *testing.T) {
	o := foretoldText("co s/1. s([H|T]) :- s(T).", "X = [0|X], s(X).", 5)
	if len(o.events) != 2 || o.events[0].used != 3 || o.events[1].used != 5 || len(o.then) != 6 {
		t.Error(o.events)
	}
	o = foretoldText("n(0). n(s(N)) :- n(N).", "n(X).", 6)
	if len(o.events) != 3 || o.events[0].used != 1 || o.events[1].used != 3 || o.events[2].used != 5 || o.events[2].kind != isAnswer {
		t.Error(o.events)
	}
	o = foretoldText("z.", "z, z.", 7)
	if len(o.events) != 2 || o.events[0].used != 2 || o.events[1].kind != isEnd || o.events[1].used != 2 {
		t.Error(o.events)
	}
}
