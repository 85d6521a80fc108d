package console_test

import (
	"slices"
	"strconv"
	"strings"
	"testing"

	"tendril/api"
	"tendril/console"
	"tendril/lex"
	"tendril/parse"
)

const spent = "error 192 by 182\n"

// cutAnswers is the answers' lines of a console that is asked with small budgets, and compacts between.
func cutAnswers(d *dice, c *console.Console, attempts int) string {
	var out strings.Builder
	for attempts > 0 {
		budget := 1 + d.below(3)
		attempts -= budget
		told := c.Run("next " + strconv.Itoa(budget))
		if d.below(4) == 0 {
			c.Run("compact")
		}
		if told != spent {
			out.WriteString(told)
		}
		if told == "no\n" {
			break
		}
	}
	return out.String()
}

// P5: answers are the same, whether their budgets are cut and the store is compacted, or not.
func TestCutBudgets(t *testing.T) {
	ends, many := 0, 0
	for seed := range 2000 {
		d := dice(seed + 800000)
		ahead := "load " + d.program() + "\nask " + d.goals(1+d.below(3)) + "."
		one, other := open(t, 10000), open(t, 10000)
		if told := one.Run(ahead); told != "ok\nok\n" {
			continue
		}
		other.Run(ahead)
		cut := cutAnswers(&d, one, 150)
		count := strings.Count(cut, "\n")
		whole := other.Run("all " + strconv.Itoa(count) + " 200")
		if whole != cut {
			t.Fatalf("seed %d: %s:\n%s\nwant:\n%s", seed, ahead, short(cut), short(whole))
		}
		if strings.HasSuffix(cut, "no\n") {
			ends++
		}
		if count > 2 {
			many++
		}
	}
	if ends < 300 || many < 300 {
		t.Error(ends, many)
	}
}

// sign is a call's predicate, as it is written.
func sign(e api.Expr) string { return lex.Quote(e.Name) + "/" + strconv.Itoa(len(e.Args)) }

// goalWord is what a goal's proof is told by.
func goalWord(g api.Goal) string { return []string{"", sign(g.A), "=", "dif"}[g.Kind] }

// told is a proof's line, taken apart.
type told struct {
	word, way string
	by        int
	parent    int // -1 of the query's
	place     int
}

func takeApart(t *testing.T, line string, number int) told {
	t.Helper()
	words := strings.Split(line, " ")
	at := func(i int) int {
		n, err := strconv.Atoi(words[i])
		if err != nil {
			t.Fatalf("%q: %v", line, err)
		}
		return n
	}
	out := told{word: words[1], parent: -1, by: -1, place: at(len(words) - 1)}
	if at(0) != number || words[len(words)-3] != "in" {
		t.Fatalf("%q at %d", line, number)
	}
	if words[len(words)-2] != "query" {
		out.parent = at(len(words) - 2)
	}
	switch {
	case len(words) == 8 && words[2] == "by":
		out.way, out.by = words[3], at(4)
	case len(words) != 5:
		t.Fatalf("%q", line)
	}
	return out
}

// checker holds proofs against what was loaded and asked.
type checker struct {
	clauses []api.Clause
	query   []api.Goal
	co      []string
}

// check stops the test unless these lines are a proof.
func (k checker) check(t *testing.T, text string) int {
	t.Helper()
	var list []told
	for line := range strings.SplitSeq(strings.TrimSuffix(text, "\n"), "\n") {
		if text != "" {
			list = append(list, takeApart(t, line, len(list)))
		}
	}
	goals := map[int]int{-1: 0} // how many goals each parent has
	hyps := 0
	for i, p := range list {
		body := k.query
		if p.parent >= 0 {
			body = k.clauses[list[p.parent].by].Body
		}
		if p.parent >= i || p.place != goals[p.parent] || p.word != goalWord(body[p.place]) || p.parent >= 0 && list[p.parent].way != "clause" {
			t.Fatalf("line %d of\n%s", i, text)
		}
		goals[p.parent]++
		switch p.way {
		case "clause":
			if sign(k.clauses[p.by].Head) != p.word {
				t.Fatalf("line %d of\n%s", i, text)
			}
		case "call":
			hyps++
			k.circle(t, list, i, text)
		case "":
			if p.word != "=" && p.word != "dif" {
				t.Fatalf("line %d of\n%s", i, text)
			}
		}
	}
	for i, p := range list {
		if p.way == "clause" && goals[i] != len(k.clauses[p.by].Body) {
			t.Fatalf("line %d of\n%s", i, text)
		}
	}
	if goals[-1] != len(k.query) {
		t.Fatal(text)
	}
	return hyps
}

// circle stops the test unless a call above is one above, of the same predicate, and all between are coinductive.
func (k checker) circle(t *testing.T, list []told, i int, text string) {
	t.Helper()
	at := list[i].parent
	for at > list[i].by && slices.Contains(k.co, list[at].word) {
		at = list[at].parent
	}
	if at < 0 || at != list[i].by || list[at].word != list[i].word || !slices.Contains(k.co, list[at].word) {
		t.Fatalf("line %d of\n%s", i, text)
	}
}

// P6, P20.1: what proof tells is a proof: each call's clause is one of its predicate, with its goals below it, each in its place; a call above is of the same predicate, and no circle runs through an inductive one.
func TestProofsAreProofs(t *testing.T) {
	proofs, hyps := 0, 0
	for seed := range 3000 {
		d := dice(seed + 900000)
		source, query := d.program(), d.goals(1+d.below(3))+"."
		c := open(t, 10000)
		if c.Run("load "+source+"\nask "+query) != "ok\nok\n" {
			continue
		}
		program, err := parse.Program(source)
		goals, also := parse.Query(query)
		if err != nil || also != nil {
			t.Fatal(err, also)
		}
		k := checker{clauses: program.Clauses, query: goals}
		for line := range strings.SplitSeq(c.Run("preds"), "\n") {
			if rest, ok := strings.CutPrefix(line, "co "); ok {
				k.co = append(k.co, rest)
			}
		}
		for range 8 {
			answer := c.Run("next 30")
			if answer == "no\n" || strings.HasPrefix(answer, "error") {
				break
			}
			proofs++
			hyps += k.check(t, c.Run("proof"))
		}
	}
	if proofs < 1000 || hyps < 300 {
		t.Error(proofs, hyps)
	}
}
