package console_test

import (
	"strconv"
	"strings"
	"testing"

	"tendril/api"
	"tendril/session"
	"tendril/show"
	"tendril/solve"
)

// reader carries out texts by the chapter's words, byte by byte, with a session of its own.
type reader struct {
	s   *session.Session // none of a nil console
	out strings.Builder
}

func readerOf(t *testing.T, size int) *reader {
	t.Helper()
	s, err := session.New(size)
	if err != nil {
		t.Fatal(err)
	}
	return &reader{s: s}
}

// run is what is told of a text.
func (r *reader) run(text string) string {
	r.out.Reset()
	begin := 0
	for i := 0; i <= len(text); i++ {
		if i == len(text) || text[i] == 0x0a {
			r.line(text[begin:i])
			begin = i + 1
		}
	}
	return r.out.String()
}

func isBlank(b byte) bool { return b == 0x20 || b == 0x09 || b == 0x0d }

// line carries out one line.
func (r *reader) line(text string) {
	begin := 0
	for begin < len(text) && isBlank(text[begin]) {
		begin++
	}
	if begin == len(text) || text[begin] == '%' {
		return
	}
	end := begin
	for end < len(text) && !isBlank(text[end]) {
		end++
	}
	command := text[begin:end]
	last := len(text)
	for last > end && isBlank(text[last-1]) {
		last--
	}
	for end < last && isBlank(text[end]) {
		end++
	}
	r.carry(command, text[end:last])
}

func (r *reader) tell(text string) { r.out.WriteString(text + "\n") }

// fail tells an error, or, if there is none, the text.
func (r *reader) fail(err error, text string) bool {
	if err != nil {
		r.tell(errorLine(err))
		return true
	}
	r.tell(text)
	return false
}

func (r *reader) carry(command, rest string) {
	argument := func() { r.tell("error 201 of " + command) }
	switch command {
	case "load":
		r.fail(r.s.Load(rest), "ok")
	case "ask":
		r.fail(r.s.Query(rest), "ok")
	case "next":
		n, ok := numberOf(rest)
		if rest == "" {
			n, ok = 10000, true
		}
		if !ok {
			argument()
			return
		}
		r.next(n)
	case "all":
		r.all(rest, argument)
	case "used", "compact", "preds", "proof":
		if rest != "" {
			argument()
			return
		}
		r.bare(command)
	case "show":
		g, err := show.Read(rest)
		r.graph(g, err)
	case "unify", "differ":
		g, err := show.Read(rest)
		if err == nil && len(g.Roots) != 2 {
			argument()
			return
		}
		r.pair(command, g, err)
	default:
		r.tell("error 200 of " + command)
	}
}

// numberOf is the number that a text is, if it is one.
func numberOf(text string) (int, bool) {
	if text == "" || len(text) > 6 || len(text) > 1 && text[0] == '0' {
		return 0, false
	}
	n := 0
	for i := range len(text) {
		if text[i] < '0' || text[i] > '9' {
			return 0, false
		}
		n = 10*n + int(text[i]-'0')
	}
	return n, true
}

// next tells the next answer's line, and whether one may go on behind it.
func (r *reader) next(budget int) bool {
	text, ok, err := r.s.Next(budget)
	if err == nil && !ok {
		text = "no"
	}
	return !r.fail(err, text) && ok
}

func (r *reader) all(rest string, argument func()) {
	end := 0
	for end < len(rest) && !isBlank(rest[end]) {
		end++
	}
	begin := end
	for begin < len(rest) && isBlank(rest[begin]) {
		begin++
	}
	count, ok := numberOf(rest[:end])
	budget, also := numberOf(rest[begin:])
	if !ok || !also {
		argument()
		return
	}
	for i := 0; i < count && r.next(budget); i++ {
	}
}

func (r *reader) bare(command string) {
	switch command {
	case "used":
		r.tell(strconv.Itoa(r.s.Used()))
	case "compact":
		n, err := r.s.Compact()
		r.fail(err, strconv.Itoa(n))
	case "preds":
		for _, p := range r.s.Preds() {
			r.tell(p)
		}
	case "proof":
		a, err := r.s.Answer()
		if err != nil {
			r.fail(err, "")
			return
		}
		for i, p := range a.Proofs {
			r.proof(i, p)
		}
	}
}

func (r *reader) proof(number int, p api.Proof) {
	words := []string{strconv.Itoa(number), ""}
	switch p.Kind {
	case goalEq:
		words[1] = "="
	case goalDif:
		words[1] = "dif"
	case goalCall:
		words[1] = strings.TrimPrefix(r.s.Preds()[p.Pred], "co ")
		if p.Rule != -1 {
			words = append(words, "by", "clause", strconv.Itoa(p.Rule))
		}
		if p.Hyp != -1 {
			words = append(words, "by", "call", strconv.Itoa(p.Hyp))
		}
	}
	words = append(words, "in", strconv.Itoa(p.Parent), strconv.Itoa(p.Place))
	if p.Parent == -1 {
		words[len(words)-2] = "query"
	}
	r.tell(strings.Join(words, " "))
}

func (r *reader) graph(g api.Graph, err error) {
	text := ""
	if err == nil {
		text, err = show.Text(g)
	}
	r.fail(err, text)
}

func (r *reader) pair(command string, g api.Graph, err error) {
	if err != nil {
		r.fail(err, "")
		return
	}
	pairs := [][2]int{{g.Roots[0], g.Roots[1]}}
	if command == "unify" {
		solved, ok, err := solve.Solve(g, pairs)
		if err == nil && !ok {
			r.tell("no")
			return
		}
		r.graph(solved, err)
		return
	}
	v, err := solve.Verdict(g, pairs)
	r.fail(err, []string{"", "apart", "same", "open"}[v.Kind])
}

// errorLine is the line of an error that is a fault itself.
func errorLine(err error) string {
	var told func(f *api.Fault) string
	told = func(f *api.Fault) string {
		words := []string{strconv.Itoa(int(f.Code))}
		if f.At >= 0 {
			words = append(words, "at", strconv.Itoa(f.At))
		}
		if f.Name != "" {
			words = append(words, "of", f.Name)
		}
		if cause, ok := f.Cause.(*api.Fault); ok {
			words = append(words, "by", told(cause))
		}
		return strings.Join(words, " ")
	}
	return "error " + told(err.(*api.Fault))
}
