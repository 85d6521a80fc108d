package session_test

import (
	"slices"
	"strconv"
	"strings"
	"testing"

	"tendril/api"
	"tendril/code"
	"tendril/lex"
	"tendril/machine"
	"tendril/parse"
	"tendril/session"
	"tendril/strata"
)

// dice is a row of numbers that look scattered, and are the same each time.
type dice uint64

func (d *dice) below(n int) int {
	*d = *d*6364136223846793005 + 1442695040888963407
	x := uint64(*d)
	x ^= x >> 29
	x *= 0xbf58476d1ce4e5b9
	x ^= x >> 32
	return int(x % uint64(n))
}

func (d *dice) one(list ...string) string { return list[d.below(len(list))] }

// term is a term of few names, so that often two can be one.
func (d *dice) term(deep int) string {
	if deep == 0 || d.below(3) > 0 {
		return d.one("X", "Y", "Z", "X", "Y", "X", "Y", "Z", "W", "_", "a", "a", "'where'", "0", "[]", "'Q'")
	}
	switch d.below(5) {
	case 0:
		return "g(" + d.terms(2, deep-1) + ")"
	case 1:
		return "[" + d.term(deep-1) + "|" + d.term(deep-1) + "]"
	}
	return d.one("f", "f", "g", "where") + "(" + d.term(deep-1) + ")"
}

func (d *dice) terms(count, deep int) string {
	var out []string
	for range count {
		out = append(out, d.term(deep))
	}
	return strings.Join(out, ",")
}

// signs is predicates: names with numbers of arguments.
var signs = []struct {
	name  string
	arity int
}{{"p", 1}, {"q", 2}, {"r", 1}, {"z", 0}, {"p", 3}}

func (d *dice) call() string {
	s := signs[d.below(len(signs))]
	if s.arity == 0 {
		return s.name
	}
	return s.name + "(" + d.terms(s.arity, 2) + ")"
}

func (d *dice) goal() string {
	switch d.below(6) {
	case 0:
		return d.one("X", "Y", "Z") + " = " + d.term(2)
	case 1:
		return "dif(" + d.one("X", "Y", "Z") + ", " + d.term(2) + ")"
	}
	return d.call()
}

func (d *dice) goals(count int) string {
	var out []string
	for range count {
		out = append(out, d.goal())
	}
	return strings.Join(out, ", ")
}

// program is a program in which each predicate is declared or has a clause; some mix both kinds in a circle.
func (d *dice) program() string {
	var out []string
	co := d.below(3)
	for _, s := range signs {
		if co == 0 || co == 1 && d.below(2) == 0 {
			out = append(out, "co "+s.name+"/"+strconv.Itoa(s.arity)+".")
		} else if s.arity == 0 {
			out = append(out, s.name+".")
		} else {
			out = append(out, s.name+"("+d.terms(s.arity, 2)+").")
		}
	}
	for range 4 + d.below(6) {
		clause := d.call()
		if count := d.below(3); count > 0 {
			clause += " :- " + d.goals(count)
		}
		out = append(out, clause+".")
	}
	return strings.Join(out, " ")
}

// budgets is some budgets.
func (d *dice) budgets() []int {
	var out []int
	for range 1 + d.below(4) {
		out = append(out, d.below(8)-1)
	}
	return append(out, 1+d.below(12))
}

// step is a call of a session that may change it.
type step struct {
	call   string
	source string
	budget int
}

// history is the steps that were made with a new session of a size. What the last one answers, and what is told behind it, is worked out from these alone, by the last program and the last query that count; a machine of its own says what the answers are.
type history struct {
	size  int
	steps []step
}

// compiledBy is the code of a source, or the fault for which Load refuses it.
func compiledBy(source string, size int) (api.Code, error) {
	p, err := parse.Program(source)
	if err != nil {
		return api.Code{}, err
	}
	x, err := code.Compile(p)
	if err != nil {
		return api.Code{}, err
	}
	if err := strata.Check(x); err != nil {
		return api.Code{}, err
	}
	_, err = machine.New(x, size)
	return x, err
}

// askedBy is a new machine for a code that has a source's query, or the fault for which Query refuses it.
func askedBy(x api.Code, size int, source string) (*machine.Machine, error) {
	m, err := machine.New(x, size)
	if err != nil {
		panic(err)
	}
	goals, err := parse.Query(source)
	if err != nil {
		return m, err
	}
	r, names, err := code.Query(x, goals)
	if err != nil {
		return m, err
	}
	return m, m.Ask(r, names)
}

// last is the place of the last step of a call from a place on, of which this holds, else -1.
func (h history) last(call string, from int, holds func(s step) bool) int {
	for i := len(h.steps) - 1; i >= from; i-- {
		if h.steps[i].call == call && holds(h.steps[i]) {
			return i
		}
	}
	return -1
}

// foretold is what the last step answers, and behind it Used, Preds, and Answer with its text.
func (h history) foretold() string {
	program := h.last("load", 0, func(s step) bool { _, err := compiledBy(s.source, h.size); return err == nil })
	var x api.Code
	m, _ := machine.New(x, h.size)
	if program >= 0 {
		x, _ = compiledBy(h.steps[program].source, h.size)
	}
	now, out := h.steps[len(h.steps)-1], ""
	query := h.last("query", program+1, func(s step) bool { return true })
	if program >= 0 && query >= 0 {
		m, _ = askedBy(x, h.size, h.steps[query].source)
		for _, s := range h.steps[query+1:] {
			out = playedBy(m, s)
		}
	}
	switch {
	case now.call == "load":
		_, err := compiledBy(now.source, h.size)
		out = tellRefused(errLoad, err)
	case now.call == "query" && program < 0:
		out = tell(noProgram())
	case now.call == "query":
		_, err := askedBy(x, h.size, now.source)
		out = tellRefused(errQuery, err)
	case program < 0 || query < 0:
		out = playedBy(m, now)
	}
	out += "; " + strconv.Itoa(m.Used())
	for _, p := range x.Preds {
		out += map[bool]string{true: " co ", false: " "}[p.Co] + code.Name(p)
	}
	answer, err := m.Answer()
	if err != nil {
		return out + "; " + tellRefused(errNext, err)
	}
	return out + "; " + tellingAnswer(answer) + "; " + textOf(answer)
}

// playedBy is what a machine answers to a step, as a session must.
func playedBy(m *machine.Machine, s step) string {
	switch s.call {
	case "next":
		ok, err := m.Next(s.budget)
		if err != nil {
			return tellRefused(errNext, err)
		}
		if !ok {
			return "no"
		}
		answer, err := m.Answer()
		if err != nil {
			return tellRefused(errNext, err)
		}
		return "yes: " + textOf(answer)
	case "compact":
		n, err := m.Compact()
		return strconv.Itoa(n) + tell(err)
	}
	return ""
}

// played is what a session answers to a step, and tells behind it.
func played(s *session.Session, now step) string {
	out := ""
	switch now.call {
	case "load":
		out = tell(s.Load(now.source))
	case "query":
		out = tell(s.Query(now.source))
	case "next":
		text, ok, err := s.Next(now.budget)
		switch {
		case err != nil:
			out = tell(err) + text
		case ok:
			out = "yes: " + text
		default:
			out = "no" + text
		}
	case "compact":
		n, err := s.Compact()
		out = strconv.Itoa(n) + tell(err)
	}
	out += "; " + strconv.Itoa(s.Used())
	for _, p := range s.Preds() {
		out += " " + p
	}
	answer, err := s.Answer()
	if err != nil {
		return out + "; " + tell(err)
	}
	text, err := s.Show(answer)
	return out + "; " + tellingAnswer(answer) + "; " + text + tell(err)
}

// tell is all that an error says, its causes too.
func tell(err error) string {
	f, ok := err.(*api.Fault)
	if !ok {
		return ""
	}
	return " fault " + strconv.Itoa(int(f.Code)) + " at " + strconv.Itoa(f.At) + " of " + strconv.Quote(f.Name) + tell(f.Cause)
}

// tellRefused is what the fault says that this layer makes of one below.
func tellRefused(number int, err error) string {
	if err == nil {
		return ""
	}
	return tell(refused(number, err.(*api.Fault)))
}

// wantPlayed plays steps with a session, and stops the test unless all is as foretold.
func wantPlayed(t *testing.T, size int, steps []step) {
	t.Helper()
	s := fresh(t, size)
	for i, now := range steps {
		got, want := played(s, now), history{size, steps[:i+1]}.foretold()
		if got != want {
			t.Fatalf("size %d, step %d of %v:\n%s, want\n%s", size, i, steps, short(got), short(want))
		}
	}
}

// someSteps is calls by which a session comes to each of its states.
func someSteps() []step {
	return []step{
		{call: "load", source: sample}, {call: "load", source: "w(a). w(X) :- dif(X, a), w(f(X))."}, {call: "load", source: "p :- q."},
		{call: "query", source: "w(X)."}, {call: "query", source: "m(X, [a,Y])."}, {call: "query", source: "m(X"},
		{call: "next", budget: 1}, {call: "next", budget: 9}, {call: "compact"},
	}
}

// P19.1: all rows of up to four calls.
func TestAllRows(t *testing.T) {
	all := someSteps()
	var rows func(begin []step)
	rows = func(begin []step) {
		if len(begin) == 4 {
			wantPlayed(t, 100, begin)
			return
		}
		for _, s := range all {
			rows(append(begin[:len(begin):len(begin)], s))
		}
	}
	rows(nil)
}

// scatteredStep is a step of any kind.
func (d *dice) scatteredStep(programs []string) step {
	switch d.below(12) {
	case 0:
		return step{call: "load", source: d.one(append(programs, "", sample, "p :- q.", "co p/0. p :- q. q :- p.", "p('", "p(X)")...)}
	case 1, 2, 3:
		if d.below(4) == 0 {
			return step{call: "query", source: d.one("", "X", "unknown(X).", "X = 'a", "X = [1,2,3,4,5,6,7,8,9,10,11,12,13,14,15,16,17,18,19,20].", "f(_) = f(_).", "dif(_, a).")}
		}
		return step{call: "query", source: d.goals(1+d.below(3)) + "."}
	case 4:
		return step{call: "compact"}
	}
	return step{call: "next", budget: d.below(12) - 1}
}

// P19.1: scattered rows of calls of scattered programs, in stores of several sizes.
func TestScatteredRows(t *testing.T) {
	for seed := range 1500 {
		d := dice(seed)
		programs := []string{d.program(), d.program()}
		steps := []step{{call: "load", source: programs[0]}}
		if d.below(4) == 0 {
			steps = nil
		}
		for range 12 {
			steps = append(steps, d.scatteredStep(programs))
		}
		wantPlayed(t, []int{20, 60, 200, 5000}[d.below(4)], steps)
	}
}

// texts is the texts of the first answers of a query, and "no" at their end; Next is given such a budget, till so many attempts were made. Each text is held against its answer.
func texts(t *testing.T, s *session.Session, most int, budget func() int) []string {
	t.Helper()
	var out []string
	for s.Used() < most {
		text, ok, err := s.Next(min(budget(), most-s.Used()))
		if err != nil {
			if f := err.(*api.Fault); f.Cause.(*api.Fault).Code != errFuel {
				t.Fatal(err)
			}
			continue
		}
		if !ok {
			return append(out, "no")
		}
		answer, err := s.Answer()
		if err != nil || text != textOf(answer) {
			t.Fatalf("%s, %v, want %s", short(text), err, short(textOf(answer)))
		}
		wantReadBack(t, answer, text)
		out = append(out, text)
		if len(out) > most {
			break
		}
	}
	return out
}

// renamed is a source in which all variables but _ have other names.
func renamed(source string, name func(old string) string) string {
	tokens, err := lex.Scan(source)
	if err != nil {
		panic(err)
	}
	out, at := "", 0
	for _, x := range tokens {
		text := source[x.At:x.End]
		if x.Kind == 2 && text != "_" {
			text = name(text)
		}
		out += source[at:x.At] + text
		at = x.End
	}
	return out
}

// P19.2, P19.3: scattered programs and queries: the row of texts is the same whatever the budgets and the compactions, and whatever names the program's variables have; with other names in the query it is the same but for these. Each text says its answer.
func TestScatteredAnswers(t *testing.T) {
	const most = 60
	answers, asked, ends := 0, 0, 0
	for seed := range 3000 {
		d := dice(seed)
		program, query := d.program(), d.goals(1+d.below(3))+"."
		s := fresh(t, 20000)
		if s.Load(program) != nil {
			continue
		}
		ask(t, s, query)
		want := texts(t, s, most, func() int { return most })
		answers, asked = answers+len(want), asked+1
		if len(want) > 0 && want[len(want)-1] == "no" {
			ends++
		}
		same := func(how string, got []string) {
			t.Helper()
			if !slices.Equal(got, want) {
				t.Fatalf("%s ?- %s %s: %q, want %q", program, query, how, got, want)
			}
		}
		ask(t, s, query)
		same("asked anew", texts(t, s, most, func() int { return most }))
		ask(t, s, query)
		same("in pieces", texts(t, s, most, func() int {
			if d.below(3) == 0 {
				if _, err := s.Compact(); err != nil {
					t.Fatal(err)
				}
			}
			return 1 + d.below(5)
		}))
		s = loaded(t, 20000, renamed(program, func(old string) string { return map[string]string{"X": "Z", "Y": "Other", "Z": "X", "W": "_x"}[old] }))
		ask(t, s, query)
		same("with other names in the program", texts(t, s, most, func() int { return most }))
		same("with other names in the query", otherNames(t, s, query, most))
	}
	if asked < 1500 || answers < 3000 || ends < 500 {
		t.Errorf("%d asked, %d answers, %d ends", asked, answers, ends)
	}
}

// otherNames is the texts of a query's answers, which is asked with other names, with the old names put in again.
func otherNames(t *testing.T, s *session.Session, query string, most int) []string {
	t.Helper()
	to := map[string]string{"X": "E1", "Y": "V1", "Z": "X", "W": "_W"}
	ask(t, s, renamed(query, func(old string) string { return to[old] }))
	got := texts(t, s, most, func() int { return most })
	for i, text := range got {
		at := strings.LastIndex(text, " where ")
		if at < 0 {
			at = len(text)
		}
		pieces := strings.Split(text[:at], ", ")
		for k, piece := range pieces {
			for old, name := range to {
				if rest, is := strings.CutPrefix(piece, name+" = "); is {
					pieces[k] = old + " = " + rest
				}
			}
		}
		got[i] = strings.Join(pieces, ", ") + text[at:]
	}
	return got
}
