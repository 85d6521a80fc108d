package console_test

import (
	"fmt"
	"strconv"
	"strings"
	"testing"

	"tendril/console"
)

// dice is a row of numbers that look scattered, and are the same each time.
type dice uint64

func (d *dice) below(n int) int {
	*d = *d*6364136223846793005 + 1442695040888963407
	x := uint64(*d)
	x ^= x >> 29
	x *= 0xbf58476d1ce4e5b9
	x ^= x >> 32
	return int(x % uint64(n))
}

func (d *dice) one(list ...string) string { return list[d.below(len(list))] }

// term is a term of few names, so that often two can be one.
func (d *dice) term(deep int) string {
	if deep == 0 || d.below(3) > 0 {
		return d.one("X", "Y", "Z", "X", "Y", "X", "Y", "Z", "W", "_", "a", "a", "'where'", "0", "[]", "'Q%'")
	}
	switch d.below(5) {
	case 0:
		return "g(" + d.terms(2, deep-1) + ")"
	case 1:
		return "[" + d.term(deep-1) + "|" + d.term(deep-1) + "]"
	}
	return d.one("f", "f", "g", "where") + "(" + d.term(deep-1) + ")"
}

func (d *dice) terms(count, deep int) string {
	var out []string
	for range count {
		out = append(out, d.term(deep))
	}
	return strings.Join(out, d.one(",", ", ", " , "))
}

// roots is terms with equations, of which most are good.
func (d *dice) roots(count int) string {
	out := d.terms(count, 3)
	if d.below(2) == 0 && count > 0 {
		out += " where X = " + d.term(3)
		if d.below(2) == 0 {
			out += ", " + d.one("Y", "Z", "Y", "X", "_") + " = " + d.term(2)
		}
	}
	return out
}

var signs = []struct {
	name  string
	arity int
}{{"p", 1}, {"q", 2}, {"'It\\'s'", 1}, {"z", 0}, {"p", 3}}

func (d *dice) call() string {
	s := signs[d.below(len(signs))]
	if s.arity == 0 {
		return s.name
	}
	return s.name + "(" + d.terms(s.arity, 2) + ")"
}

func (d *dice) goal() string {
	switch d.below(6) {
	case 0:
		return d.one("X", "Y", "Z") + " = " + d.term(2)
	case 1:
		return "dif(" + d.one("X", "Y", "Z") + ", " + d.term(2) + ")"
	case 2:
		return d.one("c(X)", "X = f(X), c(X)", "c([X|Y]), Y = f(Y)", "c(X), c(Y)")
	}
	return d.call()
}

func (d *dice) goals(count int) string {
	var out []string
	for range count {
		out = append(out, d.goal())
	}
	return strings.Join(out, ", ")
}

// program is a program in which each predicate is declared or has a clause; some mix both kinds in a circle.
func (d *dice) program() string {
	out := []string{"co c/1. c(f(X)) :- c(X). c([H|X]) :- c(X)."}
	co := d.below(3)
	for _, s := range signs {
		if co == 0 || co == 1 && d.below(2) == 0 {
			out = append(out, "co "+s.name+"/"+strconv.Itoa(s.arity)+".")
		} else if s.arity == 0 {
			out = append(out, s.name+".")
		} else {
			out = append(out, s.name+"("+d.terms(s.arity, 2)+").")
		}
	}
	for range 4 + d.below(6) {
		clause := d.call()
		if count := d.below(3); count > 0 {
			clause += " :- " + d.goals(count)
		}
		out = append(out, clause+".")
	}
	return strings.Join(out, " ")
}

// number is mostly one, and small.
func (d *dice) number() string {
	return d.one("0", "1", "2", "3", "5", "9", "12", "30", "7", "4", "6", "10", "01", "x", "-1", "1000000", "+2")
}

func (d *dice) blank() string {
	return d.one(" ", " ", " ", " ", " ", "\t", "\r", "  ", " \t\r", "\x0b", "\x0c")
}

// rest is a rest for a command; not each is one that it takes.
func (d *dice) rest(command string) string {
	switch command {
	case "load":
		return d.one(d.program(), d.program(), d.program(), "p(X) :- p", "p :- q.", "z. z.", "")
	case "ask":
		return d.one(d.goals(1)+".", d.goals(2)+".", d.goals(3)+".", "p(X).", "q(X, Y).", "X = ", "unknown.", "")
	case "next":
		return d.one(d.number(), d.number(), d.number(), d.number(), d.number()+d.blank()+d.number())
	case "all":
		return d.one(d.number()+d.blank()+d.number(), d.number()+d.blank()+d.number(), d.number()+d.blank()+d.number(), d.number(), "", d.number()+d.blank()+d.number()+d.blank()+d.number())
	case "show":
		return d.one(d.roots(d.below(4)), d.roots(1), d.roots(2), "f(")
	case "unify", "differ":
		return d.one(d.roots(2), d.roots(2), d.roots(2), d.roots(d.below(4)))
	}
	return d.one("", "", "", "", "1", "%")
}

// line is a line; some are passed over.
func (d *dice) line() string {
	switch d.below(16) {
	case 0:
		return d.one("", " ", "\t", "\r", "%", " % x", "%used", "\r%\t")
	case 1:
		return d.one("frob", "Next", "x", "loads", "\x00", "\xff", "'", ":-", "next1", "nextx 3") + d.one("", " ", " x")
	}
	command := d.one("load", "ask", "ask", "ask", "next", "next", "all", "all", "all", "used", "compact", "preds", "proof", "proof", "show", "unify", "differ")
	return d.one("", "", "", " ", "\t", "\r", " \t ") + command + d.blank() + d.rest(command) + d.one("", "", "", " ", "\r", "\t\r ", "\x0b", "%")
}

// text is lines that begin mostly with a program and a query.
func (d *dice) text() string {
	var out []string
	if d.below(5) > 0 {
		out = append(out, "load "+d.program(), "ask "+d.goals(1+d.below(3))+".", d.one("next 12", "next 5", "all 3 20", "used", ""), d.one("proof", "proof", "preds", ""))
	}
	for range d.below(25) {
		out = append(out, d.line())
	}
	return strings.Join(out, "\n") + d.one("", "\n", "\n\n")
}

// P20.1: scattered texts in consoles of several sizes, each console with a row of them, and what they tell by the chapter's words.
func TestManyTexts(t *testing.T) {
	counts := map[string]int{}
	for seed := range 4000 {
		d := dice(seed)
		size := []int{2000, 2000, 300, 60, 20}[d.below(5)]
		c, r := open(t, size), readerOf(t, size)
		for range 1 + d.below(3) {
			text := d.text()
			got, want := c.Run(text), r.run(text)
			if got != want {
				t.Fatalf("seed %d: %q:\n%s\nwant:\n%s", seed, text, got, want)
			}
			for line := range strings.SplitSeq(got, "\n") {
				counts[kindOf(line)]++
			}
		}
	}
	for _, kind := range []string{"ok", "no", "yes", "apart", "same", "open", "error 200", "error 201", "error 91", "error 190", "error 191", "error 192", "proof", "by clause", "by call", "answer", "number", "predicate"} {
		if counts[kind] < 100 {
			t.Errorf("%d lines of the kind %s", counts[kind], kind)
		}
	}
}

// kindOf tells lines apart, roughly.
func kindOf(line string) string {
	switch words := strings.Fields(line); {
	case line == "":
		return ""
	case words[0] == "error":
		return "error " + words[1]
	case strings.Contains(line, " by clause "):
		return "by clause"
	case strings.Contains(line, " by call "):
		return "by call"
	case strings.Contains(line, " in "):
		return "proof"
	case strings.HasSuffix(words[0], "/1"), strings.HasPrefix(line, "co "):
		return "predicate"
	case len(words) > 1:
		return "answer"
	}
	if _, err := strconv.Atoi(line); err == nil {
		return "number"
	}
	return line
}

// P20.1: scattered texts to a nil console.
func TestManyTextsToNone(t *testing.T) {
	var c *console.Console
	for seed := range 1000 {
		d := dice(seed + 100000)
		text := d.text()
		if got, want := c.Run(text), (&reader{}).run(text); got != want {
			t.Fatalf("seed %d: %q:\n%s\nwant:\n%s", seed, text, got, want)
		}
	}
}

// P20.1: scattered bytes, of which few make commands.
func TestManyBytes(t *testing.T) {
	pieces := []string{" ", " ", "\t", "\r", "\n", "\n", "\n", "%", "next", "used", "all", "show", "ask", "load", "differ", "1", "2", "0", "a", "X", ",", ".", "(", ")", "p", "\x00", "\x0b", "\x0c", "\x1f", "\x7f", "\x80", "\xff", "é", "'", "=", ":-", "proof", "preds", "unify", "compact"}
	for seed := range 20000 {
		d := dice(seed + 200000)
		var text strings.Builder
		for range d.below(40) {
			text.WriteString(pieces[d.below(len(pieces))])
		}
		got, want := open(t, 100).Run(text.String()), readerOf(t, 100).run(text.String())
		if got != want {
			t.Fatalf("seed %d: %q:\n%s\nwant:\n%s", seed, text.String(), got, want)
		}
	}
}

// P20.1: all rows of up to four lines out of some by which a console comes to each of its states.
func TestAllRows(t *testing.T) {
	lines := []string{"load co s/1. s([H|T]) :- s(T).", "load p(a). p(b). p(X) :- dif(X, a), p(X).", "load p :- q.", "ask p(X).", "ask s(X).", "ask p(", "next", "next 1", "all 2 3", "compact"}
	var rows func(ahead []string)
	count := 0
	rows = func(ahead []string) {
		count++
		text := strings.Join(append(ahead[:len(ahead):len(ahead)], "used", "preds", "proof"), "\n")
		if got, want := open(t, 50).Run(text), readerOf(t, 50).run(text); got != want {
			t.Fatalf("%q:\n%s\nwant:\n%s", text, got, want)
		}
		if len(ahead) == 4 {
			return
		}
		for _, line := range lines {
			rows(append(ahead[:len(ahead):len(ahead)], line))
		}
	}
	rows(nil)
	if count != 1+10+100+1000+10000 {
		t.Error(count)
	}
}

// P20.2: a text that is cut at each of its bytes 0x0a, and in all of them.
func TestCutTexts(t *testing.T) {
	for seed := range 300 {
		d := dice(seed + 300000)
		text := d.text() + "\n" + d.text()
		size := []int{5000, 300, 30}[d.below(3)]
		want := open(t, size).Run(text)
		lines := strings.Split(text, "\n")
		for at := range len(lines) + 1 {
			if at == 0 || at == len(lines) {
				continue
			}
			c := open(t, size)
			got := c.Run(strings.Join(lines[:at], "\n"))
			got += c.Run(strings.Join(lines[at:], "\n"))
			if got != want {
				t.Fatalf("seed %d: %q, cut at %d:\n%s\nwant:\n%s", seed, text, at, got, want)
			}
		}
		c, got := open(t, size), ""
		for _, line := range lines {
			got += c.Run("") + c.Run(line)
		}
		if got != want {
			t.Fatalf("seed %d: %q, in lines:\n%s\nwant:\n%s", seed, text, got, want)
		}
	}
}

// P20.2: each two of some texts, also such as end within a line, and empty ones.
func TestJoinedTexts(t *testing.T) {
	texts := []string{"", "\n", "%", " ", "load p(a). p(b).", "load p(a). p(b).\n", "ask p(X).", "\nask p(X).\r\n", "next", "next\n\n", "all 2 3", "used\ncompact\nproof\npreds", "ne", "xt", "show a", ", b", "% remark", "frob", "load p(X)", ":- q.", "all 1", "5", "\x00", "unify a,\nb"}
	for i, one := range texts {
		for k, other := range texts {
			for _, ahead := range []string{"", "load p(a). p(b).\nask p(X)."} {
				c, whole := open(t, 1000), open(t, 1000)
				c.Run(ahead)
				whole.Run(ahead)
				got := c.Run(one) + c.Run(other)
				if want := whole.Run(one + "\n" + other); got != want {
					t.Errorf("%d, %d: %q, want %q", i, k, got, want)
				}
			}
		}
	}
}

// P20.3: what show answers show answers again, of scattered texts.
func TestShownAgain(t *testing.T) {
	c, shown, where := open(t, 1), 0, 0
	for seed := range 20000 {
		d := dice(seed + 400000)
		told := c.Run("show " + d.roots(d.below(5)))
		if strings.HasPrefix(told, "error ") {
			continue
		}
		shown++
		if strings.Contains(told, " where E1 = ") {
			where++
		}
		if again := c.Run("show " + told); again != told {
			t.Fatalf("seed %d: %q, then %q", seed, told, again)
		}
	}
	if shown < 15000 || where < 5000 {
		t.Error(shown, where)
	}
	// Large ones, as long as their text can be read.
	for _, text := range []string{list("a", 4096), list("X#", 4096), "[" + list("f(X)", 1023) + "]", strings.Repeat("f(", 4094) + "a" + strings.Repeat(")", 4094), list("X# where X# = g(X#)", 1), "f(X) where X = [" + list("X", 2000) + "|X]"} {
		told := c.Run("show " + text)
		if again := c.Run("show " + told); again != told || strings.HasPrefix(told, "error") {
			t.Errorf("%s, then %s", short(told), short(again))
		}
	}
}

// P20.3: what unify answers for two roots that are changed about is the same up to their order; and differ answers the same.
func TestChangedAbout(t *testing.T) {
	c := open(t, 1)
	no, solved, verdicts := 0, 0, map[string]int{}
	for seed := range 20000 {
		d := dice(seed + 500000)
		one, other := d.term(3), d.term(3)
		where := ""
		if d.below(2) == 0 {
			where = " where X = " + d.term(3)
			if d.below(2) == 0 {
				where += ", Y = " + d.term(2)
			}
		}
		told, about := c.Run("unify "+one+", "+other+where), c.Run("unify "+other+", "+one+where)
		if (told == "no\n") != (about == "no\n") || strings.HasPrefix(told, "error") {
			t.Fatalf("seed %d: %s, about: %s", seed, told, about)
		}
		verdict := c.Run("differ " + one + ", " + other + where)
		if changed := c.Run("differ " + other + ", " + one + where); changed != verdict {
			t.Fatalf("seed %d: %s, about: %s", seed, verdict, changed)
		}
		verdicts[verdict]++
		if (verdict == "apart\n") != (told == "no\n") {
			t.Fatalf("seed %d: %s, %s", seed, verdict, told)
		}
		if told == "no\n" {
			no++
			continue
		}
		solved++
		// Both roots unfold alike, so the order of the two makes no difference to the text either.
		if told != about {
			t.Fatalf("seed %d: %s, about: %s", seed, told, about)
		}
		if again := c.Run("show " + told); again != told {
			t.Fatalf("seed %d: %s, shown: %s", seed, told, again)
		}
		if again := c.Run("differ " + told); again != "same\n" {
			t.Fatalf("seed %d: %s is %s", seed, told, again)
		}
		if again := c.Run("unify " + told); again != told {
			t.Fatalf("seed %d: %s, unified again: %s", seed, told, again)
		}
		if verdict == "same\n" && c.Run("show "+one+", "+other+where) != told {
			t.Fatalf("seed %d: the same, but told otherwise: %s", seed, told)
		}
	}
	if no < 1000 || solved < 1000 || verdicts["same\n"] < 500 || verdicts["open\n"] < 1000 {
		t.Error(fmt.Sprint(no, solved, verdicts))
	}
}
