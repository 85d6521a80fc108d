package console_test

import (
	"math"
	"strconv"
	"strings"
	"testing"

	"tendril/api"
	"tendril/console"
)

// The limits and the numbers are spelt here, apart from the program.
const (
	mostWords   = 65536
	mostNodes   = 4096
	mostNest    = 4096
	mostClauses = 256
	mostGoals   = 32
	mostPreds   = 128
	mostDifs    = 256
	mostSource  = 4194304

	goalCall = 1
	goalEq   = 2
	goalDif  = 3

	difApart = 1
	difSame  = 2
	difOpen  = 3

	errNil      = 1
	errMax      = 20
	errNew      = 110
	errCommand  = 200
	errArgument = 201
)

// Programs that many tests load.
const (
	stream  = "load co s/1. s([H|T]) :- s(T).\n"
	member  = "load m(X, [X|T]). m(X, [Y|T]) :- dif(X, Y), m(X, T).\n"
	natural = "load n(0). n(s(N)) :- n(N).\n"
)

// open is a new console.
func open(t *testing.T, size int) *console.Console {
	t.Helper()
	c, err := console.Open(size)
	if err != nil || c == nil {
		t.Fatal(c, err)
	}
	return c
}

// wantRun stops the test unless a console tells this of a text.
func wantRun(t *testing.T, c *console.Console, text, want string) {
	t.Helper()
	if got := c.Run(text); got != want {
		t.Fatalf("%s:\n%s\nwant:\n%s", short(strconv.Quote(text)), short(got), short(want))
	}
}

// wantNew stops the test unless a new console tells this of a text.
func wantNew(t *testing.T, text, want string) {
	t.Helper()
	wantRun(t, open(t, 5000), text, want)
}

// short is a text, cut off if it is long.
func short(text string) string {
	if len(text) > 2000 {
		return text[:1000] + " .. " + text[len(text)-1000:]
	}
	return text
}

// repeated is so many times a text in which the number stands for #.
func repeated(text string, count int) string {
	var out strings.Builder
	for i := range count {
		out.WriteString(strings.ReplaceAll(text, "#", strconv.Itoa(i)))
	}
	return out.String()
}

// list is so many elements, made as repeated makes them, with a comma between each two.
func list(text string, count int) string { return strings.TrimSuffix(repeated(text+",", count), ",") }

// P20.1: the chapter's example, to the letter.
func TestChapter(t *testing.T) {
	text := `load co s/1. s([H|T]) :- s(T).
preds
ask X = [0|X], s(X).
next
proof
next 1
ask dif(X, Y), X = a.
all 2 10
show f(X, X) where X = g(X)
unify f(X, a), f(b, Y)
differ X, f(X)
frob
next x
load p :- q.
`
	told := `ok
co s/1
ok
X = E1 where E1 = [0|E1]
0 = in query 0
1 s/1 by clause 0 in query 1
2 s/1 by call 1 in 1 0
error 192 by 182
ok
X = a, Y = V1, dif(a, V1)
no
E1 where E1 = f(E2,E2), E2 = g(E2)
E1, E1 where E1 = f(b,a)
open
error 200 of frob
error 201 of next
error 190 at 0 by 166 at 0 of q/0
`
	wantNew(t, text, told)
	wantNew(t, strings.TrimSuffix(text, "\n"), told)
	wantNew(t, strings.ReplaceAll(text, "\n", "\r\n"), told)
	c := open(t, 5000)
	wantRun(t, c, text, told)
	wantRun(t, c, text, told)
}

// P20.1: the document's ten examples of the whole.
func TestTenExamples(t *testing.T) {
	c := open(t, mostWords)
	wantRun(t, c, "load co stream/1. stream([H|T]) :- stream(T). nat(0). nat(s(N)) :- nat(N). member(X, [X|T]). member(X, [Y|T]) :- dif(X, Y), member(X, T).\npreds", "ok\nco stream/1\nnat/1\nmember/2\n")
	for _, x := range []struct{ text, told string }{
		{"ask X = [0|X], stream(X).\nall 3 9", "ok\n" + strings.Repeat("X = E1 where E1 = [0|E1]\n", 3)},
		{"ask X = s(X), nat(X).\nnext 999999\nnext", "ok\nerror 192 by 182\nerror 192 by 182\n"},
		{"ask nat(X).\nall 3 1000", "ok\nX = 0\nX = E1 where E1 = s(0)\nX = E1 where E1 = s(s(0))\n"},
		{"ask member(X, [a,b,a]).\nall 9 1000", "ok\nX = a\nX = b\nno\n"},
		{"ask member(X, [Y]).\nall 9 1000", "ok\nX = V1, Y = V1\nno\n"},
		{"ask dif(f(X), f(a)).\nnext", "ok\nX = V1, dif(E1, E2) where E1 = f(V1), E2 = f(a)\n"},
		{"ask dif(X, Y), X = a, Y = a.\nnext", "ok\nno\n"},
		{"ask X = f(Y, X), Y = g(X).\nnext", "ok\nX = E1, Y = E2 where E1 = f(E2,E1), E2 = g(E1)\n"},
		{"load co p/1. co stream/1. stream([H|T]) :- stream(T). p(X) :- stream(X), q(X). q(X) :- p(X).", "error 190 at 0 by 170 at 0 of p/1\n"},
		{"ask X = f(X, a, X), Y = f(Y, a, f(Y, a, Y)), X = Y.\nnext", "ok\nX = E1, Y = E1 where E1 = f(E1,a,E1)\n"},
	} {
		wantRun(t, c, x.text, x.told)
	}
}

// P20.1: load and ask: what is loaded stays when a program is refused, and a query doesn't when one is.
func TestLoadAsk(t *testing.T) {
	c := open(t, 5000)
	wantRun(t, c, "ask X = a.\npreds\nload\npreds\nask\nask X = a.\nnext", "error 191 by 181\nok\nerror 191 at 0 by 72 at 0\nok\nX = a\n")
	wantRun(t, c, stream+"load p :- q.\npreds\nask s(X).\nload p.q\nnext 2\nload p(X). p(a).\nnext\npreds\nask p(X).\nask p(X)\nnext", "ok\nerror 190 at 0 by 166 at 0 of q/0\nco s/1\nok\nerror 190 at 3 by 72 at 3\nX = E1 where E1 = [V1|E1]\nok\nerror 192 by 181\np/1\nok\nerror 191 at 4 by 72 at 4\nerror 192 by 181\n")
	// What stands behind a command is its rest just as it is, blanks and remarks in it too; and places are counted in it.
	wantRun(t, c, "load  \t p('%') \t :- \r\r q. % r\nload q. p(X) :- % q.\nask   p.", "error 190 at 0 by 166 at 0 of q/0\nerror 190 at 15 by 72 at 15\nerror 191 at 0 by 166 at 0 of p/0\n")
	wantRun(t, c, "load load. next(X) :- ask, X = load. ask.\nask next(X), load.\nnext", "ok\nok\nX = load\n")
}

// P20.1: next: with the budget that is told and without one.
func TestNext(t *testing.T) {
	c := open(t, 5000)
	wantRun(t, c, natural+"ask n(X).\nnext 1\nnext 1\nnext 1\nused\nnext 2\nnext 0\nused\nnext 0\nused\nnext 999999\nused", "ok\nok\nX = 0\nerror 192 by 182\nX = E1 where E1 = s(0)\n3\nX = E1 where E1 = s(s(0))\nerror 192 by 182\n6\nX = E1 where E1 = s(s(s(0)))\n7\nX = E1 where E1 = s(s(s(s(0))))\n9\n")
	// Of an endless row of attempts just the budget is spent; of more than 10000 that.
	want := 0
	wantRun(t, c, "load l :- l.\nask l.", "ok\nok\n")
	for _, x := range []struct {
		rest  string
		spent int
	}{{"", 10000}, {" \t\r", 10000}, {"0", 1}, {"1", 1}, {"2", 2}, {"9999", 9999}, {"10000", 10000}, {"10001", 10000}, {"999999", 10000}, {"100000", 10000}, {"10", 10}} {
		want += x.spent
		wantRun(t, c, "next "+x.rest+"\nused", "error 192 by 182\n"+strconv.Itoa(want)+"\n")
	}
	wantRun(t, c, member+"ask m(X, [a,b]).\nnext\nnext\nnext\nnext\nnext 1\nnext 0", "ok\nok\nX = a\nX = b\nno\nno\nno\nno\n")
	wantRun(t, c, "ask m(a, [a]).\nnext\nnext", "ok\nyes\nno\n")
	wantRun(t, c, "ask m(a, [b]).\nnext\nnext", "ok\nno\nno\n")
}

// P20.1: all: as many answers as are asked for, up to their end, and up to an error.
func TestAll(t *testing.T) {
	c := open(t, 5000)
	wantRun(t, c, member, "ok\n")
	answers := []string{"X = a\n", "X = b\n", "X = f\n", "no\n"}
	for count := range 8 {
		told := strings.Join(answers[:min(count, 4)], "")
		wantRun(t, c, "ask m(X, [a,b,f]).\nall "+strconv.Itoa(count)+" 50", "ok\n"+told)
		left := "no\n"
		if count < 3 {
			left = answers[count]
		}
		wantRun(t, c, "next", left)
	}
	wantRun(t, c, "ask m(X, [a,b,f]).\nall 999999 999999\nall 3 1\nall 0 1\nall 0 0", "ok\n"+strings.Join(answers, "")+"no\n")
	// The budget is each answer's.
	wantRun(t, c, natural+"ask n(X).\nall 3 2\nused", "ok\nok\nX = 0\nX = E1 where E1 = s(0)\nX = E1 where E1 = s(s(0))\n5\n")
	wantRun(t, c, "ask n(X).\nall 3 1\nused\nall 9 0\nused\nall 0 9\nused\nall 1 9\nused", "ok\nX = 0\nerror 192 by 182\n2\nX = E1 where E1 = s(0)\nerror 192 by 182\n4\n4\nX = E1 where E1 = s(s(0))\n5\n")
	wantRun(t, c, "load l :- l.\nask l.\nall 5 7\nused\nall 999999 999999\nused", "ok\nok\nerror 192 by 182\n7\nerror 192 by 182\n10007\n")
	// Without a query: one error, and none if none is asked for.
	wantRun(t, c, "ask x.\nall 0 1\nall 3 1\nall 1 1", "error 191 at 0 by 166 at 0 of x/0\nerror 192 by 181\nerror 192 by 181\n")
	// Answers behind an answer that is too large.
	wantRun(t, open(t, mostWords), "load t("+list0(1000)+"). two(0,0). two(X,Y) :- t(X), t(Y). two(1,1).\nask two(X, Y).\nall 9 99\nall 9 99", "ok\nok\nX = 0, Y = 0\nerror 192 by 185 by 117 at 5001\nX = 1, Y = 1\nno\n")
}

// list0 is a list of so many compounds.
func list0(count int) string { return "[" + list("f(#)", count) + "]" }

// P20.1: used and compact.
func TestUsedCompact(t *testing.T) {
	c := open(t, 5000)
	wantRun(t, c, "used\ncompact\n"+natural+"used\ncompact\nask n(X).\nused\ncompact\nall 3 9\nused", "0\n0\nok\n0\n0\nok\n0\n3\nX = 0\nX = E1 where E1 = s(0)\nX = E1 where E1 = s(s(0))\n5\n")
	before := c.Run("compact")
	if n, err := strconv.Atoi(strings.TrimSuffix(before, "\n")); err != nil || n < 4 || n > 20 {
		t.Error(before)
	}
	wantRun(t, c, "compact\nall 2 9\nused\nask n(", before+"X = E1 where E1 = s(s(s(0)))\nX = E1 where E1 = s(s(s(s(0))))\n9\nerror 191 at 2 by 72 at 2\n")
	wantRun(t, c, "used\ncompact", "0\n0\n")
}

// P20.1: preds: of each its line, those of a coinductive one with co ahead.
func TestPreds(t *testing.T) {
	c := open(t, 5000)
	wantRun(t, c, "preds", "")
	wantRun(t, c, "load p. co q/2. co/1 :- p.\npreds", "error 190 at 13 by 71 at 13\n")
	wantRun(t, c, "load p. co q/2. co(X) :- p. 'A b'.\npreds", "error 190 at 25 by 70 at 25 by 61 at 25\n")
	wantRun(t, c, "load p. co q/2. co(X) :- p. 'A_b'. co 'it\\'s'/8. 'co'(X, Y). 'p/0'.\npreds", "ok\nco q/2\nco 'it\\'s'/8\np/0\nco/1\n'A_b'/0\nco/2\n'p/0'/0\n")
	wantRun(t, c, "load\npreds", "ok\n")
	wantRun(t, c, "load "+repeated("p#. ", mostPreds)+"\npreds", "ok\n"+repeated("p#/0\n", mostPreds))
}

// P20.1: show.
func TestShow(t *testing.T) {
	for rest, told := range map[string]string{
		"": "", "a": "a", "X": "V1", "f(X, X) where X = g(X)": "E1 where E1 = f(E2,E2), E2 = g(E2)", "X,Y , X": "V1, V2, V1", "[1,2|T]": "E1 where E1 = [1,2|V1]", "X where X = [0|X]": "E1 where E1 = [0|E1]",
		"'where', -1 , [ ]": "where, -1, []", "f(a), f(a)": "E1, E1 where E1 = f(a)", "a % b": "a", "'%'": "'%'", "no": "no", "show": "show", "% a": "", "E1, V1, _": "V1, V2, V3",
	} {
		wantNew(t, "show "+rest, told+"\n")
		wantNew(t, "\tshow\t"+rest+"\r", told+"\n")
	}
}

// P20.1: unify and differ.
func TestTwoRoots(t *testing.T) {
	for rest, told := range map[string]struct{ unified, verdict string }{
		"f(X, a), f(b, Y)":                   {"E1, E1 where E1 = f(b,a)", "open"},
		"X, f(X)":                            {"E1, E1 where E1 = f(E1)", "open"},
		"a, b":                               {"no", "apart"},
		"a, a":                               {"a, a", "same"},
		"X, X":                               {"V1, V1", "same"},
		"X, Y":                               {"V1, V1", "open"},
		"_, _":                               {"V1, V1", "open"},
		"1, '1'":                             {"no", "apart"},
		"f(X), f(X)":                         {"E1, E1 where E1 = f(V1)", "same"},
		"f(X), f(Y)":                         {"E1, E1 where E1 = f(V1)", "open"},
		"f(X), g(X)":                         {"no", "apart"},
		"X, Y where X = f(Y), Y = f(X)":      {"E1, E1 where E1 = f(E1)", "same"},
		"X, Y where X = [a|X], Y = [a,a|Y]":  {"E1, E1 where E1 = [a|E1]", "same"},
		"X, Y where X = [a|X], Y = [a,b|Y]":  {"no", "apart"},
		"X, Y where X = [a|X], Y = [a,Z|Y]":  {"E1, E1 where E1 = [a|E1]", "open"},
		"f(X,Y), f(Y,g(X,Z)) where Z = h(X)": {"E1, E1 where E1 = f(E2,E2), E2 = g(E2,h(E2))", "open"},
		"f(X, a, X), f(b, Y, c)":             {"no", "apart"},
		"f(X,Y), f(Y,X)":                     {"E1, E1 where E1 = f(V1,V1)", "open"},
		"a , 'a' % and a remark, of which nothing": {"a, a", "same"},
	} {
		wantNew(t, "unify "+rest+"\ndiffer "+rest, told.unified+"\n"+told.verdict+"\n")
	}
}

// P20.1: Open refuses the sizes that session.New refuses, and takes the others.
func TestOpen(t *testing.T) {
	for _, size := range []int{0, -1, mostWords + 1, math.MinInt, math.MaxInt} {
		c, err := console.Open(size)
		if c != nil || !isFault(err, fault(errNew, size, "", fault(errMax, size, "", nil))) {
			t.Error(size, c, err)
		}
	}
	for _, size := range []int{1, 2, 3, 4, 5, 6, 100, mostWords - 1, mostWords} {
		told := "ok\nok\nX = a\nno\n"
		if size < 4 {
			told = "ok\nerror 191 at 4 by 183 at 4 by 112 at 4 by 22 at 4\nerror 192 by 181\nerror 192 by 181\n"
		}
		wantRun(t, open(t, size), "load p.\nask X = a.\nnext\nnext", told)
	}
	// Each console has a session of its own.
	one, other := open(t, 100), open(t, 100)
	wantRun(t, one, "load p.\nask p.", "ok\nok\n")
	wantRun(t, other, "preds\nnext", "error 192 by 181\n")
	wantRun(t, one, "preds\nnext", "p/0\nyes\n")
}

// fault is a fault as it must be.
func fault(code, at int, name string, cause error) *api.Fault {
	return &api.Fault{Code: api.Errno(code), At: at, Name: name, Cause: cause}
}

// isFault tells whether an error is this fault itself, with these causes.
func isFault(err error, want *api.Fault) bool {
	f, ok := err.(*api.Fault)
	if !ok || f == nil || f.Code != want.Code || f.At != want.At || f.Name != want.Name {
		return false
	}
	if want.Cause == nil {
		return f.Cause == nil
	}
	return isFault(f.Cause, want.Cause.(*api.Fault))
}
