package parse_test

import (
	"fmt"
	"regexp"
	"slices"
	"strconv"
	"strings"

	"tendril/api"
	"tendril/parse"
)

// The limits and the errors' numbers are spelt as numbers here, apart from the program.
const (
	longest = 4194304 // bytes of a source
	deepest = 4096    // compounds in which a term stands
	widest  = 8       // arguments of a compound
	great   = 1125899906842624

	errSource = 70
	errSyntax = 71
	errEnd    = 72
	errNest   = 73
	errArity  = 74
)

// The kinds, too.
const (
	kVar  = 1
	kAtom = 2
	kInt  = 3
	kComp = 4

	call = 1
	eq   = 2
	dif  = 3
)

// Written terms of each kind, for the rows of the tests.
func v(name string) api.Expr { return api.Expr{Kind: kVar, Name: name} }

func a(name string) api.Expr { return api.Expr{Kind: kAtom, Name: name} }

func n(num int) api.Expr { return api.Expr{Kind: kInt, Num: num} }

func c(name string, args ...api.Expr) api.Expr {
	return api.Expr{Kind: kComp, Name: name, Args: args}
}

// upTo is a list of elements that ends with a term.
func upTo(end api.Expr, elements ...api.Expr) api.Expr {
	for i := len(elements) - 1; i >= 0; i-- {
		end = c(".", elements[i], end)
	}
	return end
}

func list(elements ...api.Expr) api.Expr { return upTo(a("[]"), elements...) }

// within is a term within so many compounds of a name.
func within(depth int, name string, e api.Expr) api.Expr {
	for range depth {
		e = c(name, e)
	}
	return e
}

// many is one term so many times.
func many(count int, e api.Expr) []api.Expr { return slices.Repeat([]api.Expr{e}, count) }

func clause(head api.Expr, body ...api.Goal) api.Clause { return api.Clause{Head: head, Body: body} }

// tell is all that an answer says, each field of it, with no difference between lists that are nil and that are empty.
func tell(answer any) string {
	var out strings.Builder
	switch x := answer.(type) {
	case api.Terms:
		out.WriteString("terms")
		tellExprs(&out, x.Roots)
		for _, e := range x.Eqs {
			fmt.Fprintf(&out, " where %q", e.Name)
			tellExpr(&out, e.Right)
		}
	case api.Program:
		out.WriteString("program")
		for _, d := range x.Decls {
			fmt.Fprintf(&out, " co %q/%d", d.Name, d.Arity)
		}
		for _, one := range x.Clauses {
			out.WriteString(" clause")
			tellExpr(&out, one.Head)
			tellGoals(&out, one.Body)
		}
	case []api.Goal:
		out.WriteString("query")
		tellGoals(&out, x)
	default:
		panic("no answer")
	}
	return out.String()
}

func tellGoals(out *strings.Builder, goals []api.Goal) {
	for _, g := range goals {
		fmt.Fprintf(out, " goal %d", g.Kind)
		tellExpr(out, g.A)
		tellExpr(out, g.B)
	}
}

func tellExprs(out *strings.Builder, list []api.Expr) {
	for _, e := range list {
		tellExpr(out, e)
	}
}

func tellExpr(out *strings.Builder, e api.Expr) {
	fmt.Fprintf(out, " (%d %q %d", e.Kind, e.Name, e.Num)
	tellExprs(out, e.Args)
	out.WriteString(")")
}

// telling is all that a written term says.
func telling(e api.Expr) string {
	var out strings.Builder
	tellExpr(&out, e)
	return out.String()
}

// face is one of the three calls that read a source, by the grammar's word for what it reads.
type face struct {
	word string
	read func(string) (any, error)
	none any // the zero answer
}

var (
	termsFace = face{"terms", func(s string) (any, error) { return parse.Terms(s) }, api.Terms{}}
	progFace  = face{"program", func(s string) (any, error) { return parse.Program(s) }, api.Program{}}
	queryFace = face{"query", func(s string) (any, error) { return parse.Query(s) }, []api.Goal{}}
	faces     = []face{termsFace, progFace, queryFace}
)

// grammar is the chapter's, with its repetitions spelt as words of their own; arity is an integer, too. That terms and program may be empty is asked apart.
const grammar = `
terms   = rows
terms   = rows where eqs
rows    = term
rows    = rows , term
eqs     = eq
eqs     = eqs , eq
eq      = variable = term
term    = variable
term    = integer
term    = name
term    = name ( rows )
term    = [ ]
term    = [ rows ]
term    = [ rows | term ]
program = item
program = program item
item    = co name / arity .
item    = head .
item    = head :- goals .
head    = name
head    = name ( rows )
goals   = goal
goals   = goals , goal
goal    = term = term
goal    = name
goal    = name ( rows )
query   = goals .
`

// rule is a line of the grammar; item is a rule that was begun at a token and has been followed up to its dot.
type rule struct {
	left  string
	right []string
}

type item struct{ rule, dot, from int }

// chart finds out by Earley's way what the grammar has: a set of items ahead of each token, and one behind the last.
type chart struct {
	rules []rule
	begun map[string][]int // the rules of each word
	sets  [][]item
	word  string
}

// newChart is a chart for a word of the grammar, ahead of the first token.
func newChart(word string) *chart {
	out := &chart{word: word, begun: map[string][]int{}}
	for i, line := range strings.Split(strings.TrimSpace(grammar), "\n") {
		parts := strings.Fields(line)
		out.rules = append(out.rules, rule{parts[0], parts[2:]})
		out.begun[parts[0]] = append(out.begun[parts[0]], i)
	}
	var set []item
	for _, r := range out.begun[word] {
		set = append(set, item{rule: r})
	}
	out.sets = [][]item{out.closed(set)}
	return out
}

// ahead is the symbol behind an item's dot, or the empty text.
func (x *chart) ahead(i item) string {
	if right := x.rules[i.rule].right; i.dot < len(right) {
		return right[i.dot]
	}
	return ""
}

// closed is a set with all that follows from it; it is the next one of the chart. No rule is empty, so what a finished item was begun for stands in a set ahead.
func (x *chart) closed(set []item) []item {
	var out []item
	put := func(i item) {
		if !slices.Contains(out, i) {
			out = append(out, i)
		}
	}
	for _, i := range set {
		put(i)
	}
	for k := 0; k < len(out); k++ {
		i := out[k]
		if symbol := x.ahead(i); symbol != "" {
			for _, r := range x.begun[symbol] {
				put(item{r, 0, len(x.sets)})
			}
			continue
		}
		for _, j := range x.sets[i.from] {
			if x.ahead(j) == x.rules[i.rule].left {
				put(item{j.rule, j.dot + 1, j.from})
			}
		}
	}
	return out
}

// fits tells whether a token is what a symbol of the grammar asks for.
func fits(symbol, token string) bool {
	switch first := token[0]; symbol {
	case "name":
		return first >= 'a' && first <= 'z' || first == '\''
	case "variable":
		return first >= 'A' && first <= 'Z' || first == '_'
	case "integer", "arity":
		return first >= '0' && first <= '9' || first == '-'
	case "where", "co":
		return token == symbol || token == "'"+symbol+"'"
	}
	return token == symbol
}

// push puts a token behind the others. It answers whether some source of the grammar begins so; if none does, the chart stays.
func (x *chart) push(token string) bool {
	var set []item
	for _, i := range x.sets[len(x.sets)-1] {
		if fits(x.ahead(i), token) {
			set = append(set, item{i.rule, i.dot + 1, i.from})
		}
	}
	if len(set) == 0 {
		return false
	}
	x.sets = append(x.sets, x.closed(set))
	return true
}

func (x *chart) pop() { x.sets = x.sets[:len(x.sets)-1] }

// whole tells whether the tokens so far are a source of the grammar.
func (x *chart) whole() bool {
	if len(x.sets) == 1 {
		return x.word != "query"
	}
	for _, i := range x.sets[len(x.sets)-1] {
		if x.ahead(i) == "" && i.from == 0 && x.rules[i.rule].left == x.word {
			return true
		}
	}
	return false
}

// strange tells whether an integer that may stand next would be a declaration's number that may not be.
func (x *chart) strange(token string) bool {
	num, err := strconv.Atoi(token)
	for _, i := range x.sets[len(x.sets)-1] {
		if x.ahead(i) == "arity" {
			return err == nil && (num < 0 || num > widest)
		}
	}
	return false
}

// tooMany is the number of the first token that begins an argument number widest + 1, or -1.
func tooMany(tokens []string) int {
	var counts []int // of each bracket that is open: how many arguments were begun, or none of a list
	for i, t := range tokens {
		top := len(counts) - 1
		switch t {
		case "(":
			counts = append(counts, 1)
		case "[":
			counts = append(counts, -len(tokens))
		case ")", "]":
			counts = counts[:max(0, top)]
		case ",":
			if top < 0 {
				continue
			}
			counts[top]++
			if counts[top] == widest+1 {
				return i + 1
			}
		}
	}
	return -1
}

// verdict is the number of the first fault of tokens and the number of the token that is at fault, as the grammar has it; 0 where there is none. It leaves out how deep terms are.
func verdict(word string, tokens []string) (int, int) {
	x := newChart(word)
	many := tooMany(tokens)
	for i, t := range tokens {
		strange := x.strange(t)
		if !x.push(t) {
			return errSyntax, i
		}
		if strange || i == many {
			return errArity, i
		}
	}
	if !x.whole() {
		return errEnd, len(tokens)
	}
	return 0, 0
}

// The forms of names and variables.
var (
	nameForm  = regexp.MustCompile(`^[!-~]{1,32}$`)
	plainForm = regexp.MustCompile(`^[a-z][A-Za-z0-9_]{0,31}$`)
	varForm   = regexp.MustCompile(`^[A-Z_][A-Za-z0-9_]{0,31}$`)
)

// quoted is a name between quotes.
func quoted(name string) string {
	return "'" + strings.NewReplacer("'", `\'`, `\`, `\\`).Replace(name) + "'"
}

func spelt(name string) string {
	if plainForm.MatchString(name) {
		return name
	}
	return quoted(name)
}

// depth is how many compounds stand in one another; it is asked of finite terms alone.
func depth(e api.Expr) int {
	out := 0
	for _, x := range e.Args {
		out = max(out, 1+depth(x))
	}
	return out
}

// fine is whether a term is good, but for its depth, as the chapter says it.
func fine(e api.Expr) bool {
	bare := len(e.Args) == 0
	switch e.Kind {
	case kVar:
		return bare && e.Num == 0 && varForm.MatchString(e.Name)
	case kAtom:
		return bare && e.Num == 0 && nameForm.MatchString(e.Name)
	case kInt:
		return bare && e.Name == "" && -great <= e.Num && e.Num <= great
	case kComp:
		for _, x := range e.Args {
			if !fine(x) {
				return false
			}
		}
		return !bare && len(e.Args) <= widest && e.Num == 0 && nameForm.MatchString(e.Name)
	}
	return false
}

// text is a good term's text, as the chapter says it.
func text(e api.Expr) string {
	var parts []string
	switch {
	case e.Kind == kVar:
		return e.Name
	case e.Kind == kInt:
		return fmt.Sprint(e.Num)
	case e.Kind == kAtom && e.Name == "[]":
		return "[]"
	case e.Kind == kAtom:
		return spelt(e.Name)
	case e.Name == "." && len(e.Args) == 2:
		head, tail := text(e.Args[0]), e.Args[1]
		rest := text(tail)
		switch {
		case tail.Kind == kAtom && tail.Name == "[]":
			return "[" + head + "]"
		case tail.Kind == kComp && tail.Name == "." && len(tail.Args) == 2:
			return "[" + head + "," + rest[1:]
		}
		return "[" + head + "|" + rest + "]"
	}
	for _, x := range e.Args {
		parts = append(parts, text(x))
	}
	return spelt(e.Name) + "(" + strings.Join(parts, ",") + ")"
}

// mayHead tells whether a term may be a clause's head, or but for dif a call, where its text is told.
func mayHead(e api.Expr) bool {
	switch {
	case e.Kind == kAtom:
		return e.Name != "[]"
	case e.Kind == kComp:
		return e.Name != "." || len(e.Args) != 2
	}
	return false
}

// line is a clause's text, and whether it has one, as the chapter says it.
func line(x api.Clause) (string, bool) {
	out := ""
	if !fine(x.Head) || !mayHead(x.Head) {
		return "", false
	}
	for i, g := range x.Body {
		out += []string{", ", " :- "}[(1-min(i, 1))%2]
		zero := g.B.Kind == 0 && g.B.Name == "" && g.B.Num == 0 && len(g.B.Args) == 0
		isDif := g.A.Kind == kComp && g.A.Name == "dif" && len(g.A.Args) == 2
		switch {
		case g.Kind == call && fine(g.A) && mayHead(g.A) && !isDif && zero:
			out += text(g.A)
		case g.Kind == eq && fine(g.A) && fine(g.B):
			out += text(g.A) + " = " + text(g.B)
		case g.Kind == dif && fine(g.A) && fine(g.B):
			out += "dif(" + text(g.A) + "," + text(g.B) + ")"
		default:
			return "", false
		}
	}
	return text(x.Head) + out + ".", true
}

// dice gives scattered numbers, the same ones for the same beginning.
type dice uint64

func (d *dice) below(n int) int {
	*d = *d*6364136223846793005 + 1442695040888963407
	return int(uint64(*d)>>33) % n
}

func (d *dice) one(of ...string) string { return of[d.below(len(of))] }

func (d *dice) name() string {
	if d.below(8) == 0 {
		out := make([]byte, 1+d.below(32))
		for i := range out {
			out[i] = byte(0x21 + d.below(0x5e))
		}
		return string(out)
	}
	return d.one("a", "b", "f", "dif", "where", "co", ".", "[]", "p1_Q", "A", "_", "1", "-1", "'", `\`, ":-", ",", strings.Repeat("z", 32))
}

// expr is a good term.
func (d *dice) expr(deep int) api.Expr {
	kind := d.below(10)
	switch {
	case kind < 2:
		return v(d.one("X", "Y", "_", "E1", "_9a", "Xs", strings.Repeat("V", 32)))
	case kind < 4:
		return n([]int{0, 1, -1, 7, 42, -305, great, -great}[d.below(8)])
	case kind < 6 || deep == 0:
		return a(d.name())
	case kind < 8:
		end := a("[]")
		if d.below(3) == 0 {
			end = d.expr(deep - 1)
		}
		return upTo(end, d.exprs(d.below(4), deep-1)...)
	}
	return c(d.name(), d.exprs(1+d.below(widest)*d.below(2), deep-1)...)
}

func (d *dice) exprs(count, deep int) []api.Expr {
	var out []api.Expr
	for range count {
		out = append(out, d.expr(deep))
	}
	return out
}

// called is a term that may be called.
func (d *dice) called(deep int) api.Expr {
	for {
		e := d.expr(deep)
		if mayHead(e) && !(e.Kind == kComp && e.Name == "dif" && len(e.Args) == 2) {
			return e
		}
	}
}

func (d *dice) goals(count, deep int) []api.Goal {
	var out []api.Goal
	for range count {
		kind := 1 + d.below(3)
		g := api.Goal{Kind: kind, A: d.called(deep)}
		if kind != call {
			g = api.Goal{Kind: kind, A: d.expr(deep), B: d.expr(deep)}
		}
		out = append(out, g)
	}
	return out
}

// spell is the tokens of a term, written in one of the ways in which it can be written.
func (d *dice) spell(e api.Expr) []string {
	pair := func(e api.Expr) bool { return e.Kind == kComp && e.Name == "." && len(e.Args) == 2 }
	switch {
	case e.Kind == kVar:
		return []string{e.Name}
	case e.Kind == kInt:
		return []string{strconv.Itoa(e.Num)}
	case e.Kind == kAtom && e.Name == "[]" && d.below(4) > 0:
		return []string{"[", "]"}
	case e.Kind == kAtom:
		return []string{d.spellName(e.Name)}
	case !pair(e) || d.below(6) == 0:
		return slices.Concat([]string{d.spellName(e.Name), "("}, d.spellAll(e.Args), []string{")"})
	}
	var elements []api.Expr
	for more := true; more && pair(e); more = d.below(6) > 0 {
		elements = append(elements, e.Args[0])
		e = e.Args[1]
	}
	out := append([]string{"["}, d.spellAll(elements)...)
	if e.Kind != kAtom || e.Name != "[]" || d.below(4) == 0 {
		out = append(append(out, "|"), d.spell(e)...)
	}
	return append(out, "]")
}

func (d *dice) spellName(name string) string {
	if plainForm.MatchString(name) && d.below(6) > 0 {
		return name
	}
	return quoted(name)
}

func (d *dice) spellAll(list []api.Expr) []string {
	var out []string
	for i, e := range list {
		if i > 0 {
			out = append(out, ",")
		}
		out = append(out, d.spell(e)...)
	}
	return out
}

func (d *dice) spellGoals(goals []api.Goal) []string {
	var out []string
	for i, g := range goals {
		if i > 0 {
			out = append(out, ",")
		}
		switch g.Kind {
		case call:
			e := g.A
			if e.Kind == kAtom {
				out = append(out, d.spellName(e.Name))
				continue
			}
			out = slices.Concat(out, []string{d.spellName(e.Name), "("}, d.spellAll(e.Args), []string{")"})
		case eq:
			out = slices.Concat(out, d.spell(g.A), []string{"="}, d.spell(g.B))
		case dif:
			out = slices.Concat(out, []string{d.spellName("dif"), "("}, d.spellAll([]api.Expr{g.A, g.B}), []string{")"})
		}
	}
	return out
}

// terms, program and query are an answer and the tokens of a source that means it.
func (d *dice) terms() (any, []string) {
	var out api.Terms
	out.Roots = d.exprs(d.below(4), 3)
	tokens := d.spellAll(out.Roots)
	if len(out.Roots) == 0 || d.below(2) == 0 {
		return out, tokens
	}
	ahead := d.one("where", "where", "'where'")
	for range 1 + d.below(3) {
		e := api.Eq{Name: d.one("X", "Y", "_", "E1"), Right: d.expr(2)}
		out.Eqs = append(out.Eqs, e)
		tokens = slices.Concat(tokens, []string{ahead, e.Name, "="}, d.spell(e.Right))
		ahead = ","
	}
	return out, tokens
}

func (d *dice) program() (any, []string) {
	var out api.Program
	var tokens []string
	for range d.below(5) {
		if d.below(3) == 0 {
			x := api.Decl{Name: d.name(), Arity: d.below(widest + 1)}
			out.Decls = append(out.Decls, x)
			tokens = append(tokens, d.one("co", "co", "'co'"), d.spellName(x.Name), "/", strconv.Itoa(x.Arity), ".")
			continue
		}
		x := clause(d.called(2), d.goals(d.below(4), 2)...)
		out.Clauses = append(out.Clauses, x)
		tokens = append(tokens, d.spellGoals([]api.Goal{{Kind: call, A: x.Head}})...)
		if len(x.Body) > 0 {
			tokens = append(append(tokens, ":-"), d.spellGoals(x.Body)...)
		}
		tokens = append(tokens, ".")
	}
	return out, tokens
}

func (d *dice) query() (any, []string) {
	out := d.goals(1+d.below(4), 2)
	return out, append(d.spellGoals(out), ".")
}

func (d *dice) source(f face) (any, []string) {
	switch f.word {
	case "terms":
		return d.terms()
	case "program":
		return d.program()
	}
	return d.query()
}

// lay lays tokens one behind the other, with scattered blanks and remarks between them. It answers the source, and the place of each token and of the source's end.
func (d *dice) lay(tokens []string) (string, []int) {
	var out strings.Builder
	var places []int
	last := byte(' ')
	wordly := func(b byte) bool { return b == '_' || b >= '0' && b <= '9' || b|0x20 >= 'a' && b|0x20 <= 'z' }
	gap := func() {
		switch d.below(8) {
		case 0:
			out.WriteString(d.one(" ", "  ", "\t", "\r\n", " \n "))
		case 1:
			out.WriteString("%" + d.one("", "a", "'", " b. 'c", "\xff") + "\n")
		}
	}
	for _, t := range tokens {
		before := out.Len()
		gap()
		if out.Len() == before && wordly(last) && wordly(t[0]) {
			out.WriteString(" ")
		}
		places = append(places, out.Len())
		out.WriteString(t)
		last = t[len(t)-1]
	}
	gap()
	return out.String(), append(places, out.Len())
}
