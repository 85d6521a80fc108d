package lex_test

import (
	"math/big"
	"regexp"
	"runtime"
	"slices"
	"strconv"
	"strings"
	"sync"
	"testing"

	"tendril/api"
	"tendril/lex"
)

// The limits and the errors' numbers are spelt as numbers here, apart from the program.
const (
	longest = 4194304 // bytes of a source
	great   = 1125899906842624

	errLong   = 60
	errByte   = 61
	errName   = 62
	errInt    = 63
	errOpen   = 64
	errEscape = 65
)

// Tokens of each kind, for the rows below.
func name(text string, at, end int) api.Token {
	return api.Token{Kind: 1, Text: text, At: at, End: end}
}

func variable(text string, at int) api.Token {
	return api.Token{Kind: 2, Text: text, At: at, End: at + len(text)}
}

func integer(n, at, end int) api.Token { return api.Token{Kind: 3, Num: n, At: at, End: end} }

func mark(text string, at int) api.Token {
	return api.Token{Kind: 4, Text: text, At: at, End: at + len(text)}
}

func end(at int) api.Token { return api.Token{At: at, End: at} }

// The parts of a source by the document's words, for the oracle.
var (
	gapForm    = regexp.MustCompile(`^(?:[ \t\n\r]|%[^\n]*\n|%[^\n]*$)*`)
	nameForm   = regexp.MustCompile(`^[a-z][A-Za-z0-9_]*`)
	varForm    = regexp.MustCompile(`^[A-Z_][A-Za-z0-9_]*`)
	digitsForm = regexp.MustCompile(`^-?[0-9][A-Za-z0-9_]*`)
	intForm    = regexp.MustCompile(`^(?:0|-?[1-9][0-9]*)$`)
	markForm   = regexp.MustCompile(`^(?::-|[()\[\],|=./])`)
	openForm   = regexp.MustCompile(`^'(?:[!-&(-\[\]-~]|\\['\\])*`)
)

// quoted is a quoted name, or the number and the place of the fault in it, as the oracle has it.
func quoted(s string, at int) (api.Token, int, int) {
	open := openForm.FindString(s[at:])
	stop := at + len(open)
	switch {
	case stop == len(s):
		return api.Token{}, errOpen, at
	case s[stop] == '\\':
		return api.Token{}, errEscape, stop
	case s[stop] != '\'':
		return api.Token{}, errByte, stop
	}
	text := strings.NewReplacer(`\'`, `'`, `\\`, `\`).Replace(open[1:])
	if text == "" || len(text) > 32 {
		return api.Token{}, errName, at
	}
	return name(text, at, stop+1), 0, 0
}

// whole is an integer, or the number and the place of the fault, as the oracle has it.
func whole(text string, at int) (api.Token, int, int) {
	n, ok := new(big.Int).SetString(text, 10)
	if !intForm.MatchString(text) || !ok || n.CmpAbs(big.NewInt(great)) > 0 {
		return api.Token{}, errInt, at
	}
	return integer(int(n.Int64()), at, at+len(text)), 0, 0
}

// tokenAt is the token that begins at a place, or a fault's number and place, as the oracle has it.
func tokenAt(s string, at int) (api.Token, int, int) {
	rest := s[at:]
	if rest == "" {
		return end(at), 0, 0
	}
	if rest[0] == '\'' {
		return quoted(s, at)
	}
	if text := digitsForm.FindString(rest); text != "" {
		return whole(text, at)
	}
	if text := markForm.FindString(rest); text != "" {
		return mark(text, at), 0, 0
	}
	for kind, form := range map[int]*regexp.Regexp{1: nameForm, 2: varForm} {
		if text := form.FindString(rest); text != "" {
			if len(text) > 32 {
				return api.Token{}, errName, at
			}
			return api.Token{Kind: kind, Text: text, At: at, End: at + len(text)}, 0, 0
		}
	}
	return api.Token{}, errByte, at
}

// tokens is what stands ahead of the first fault, and that fault's number and place, as the oracle has it; 0 where there is none.
func tokens(s string) ([]api.Token, int, int) {
	if len(s) > longest {
		return nil, errLong, longest
	}
	var list []api.Token
	for at := 0; ; {
		at += len(gapForm.FindString(s[at:]))
		t, code, place := tokenAt(s, at)
		if code != 0 {
			return list, code, place
		}
		list = append(list, t)
		if t.Kind == 0 {
			return list, 0, 0
		}
		at = t.End
	}
}

// short is a source as it is told when a test fails.
func short(s string) string {
	if len(s) > 100 {
		return strconv.Quote(s[:100]) + ".. of " + strconv.Itoa(len(s)) + " bytes"
	}
	return strconv.Quote(s)
}

// isFault tells whether an error is this fault itself, and nothing but that.
func isFault(err error, code, at int) bool {
	f, ok := err.(*api.Fault)
	return ok && f != nil && *f == api.Fault{Code: api.Errno(code), At: at}
}

// each is what an iterator gives, all the way: the tokens with nil, and what stands behind them with an error. It stops the test where something follows an error.
func each(t *testing.T, s string) ([]api.Token, error) {
	t.Helper()
	var list []api.Token
	var fault error
	for token, err := range lex.Each(s) {
		if fault != nil {
			t.Fatalf("Each(%s) goes on behind %v", short(s), fault)
		}
		if fault = err; err == nil {
			list = append(list, token)
		} else if token != (api.Token{}) {
			t.Fatalf("Each(%s) has %+v beside %v", short(s), token, err)
		}
	}
	return list, fault
}

// want stops the test unless Scan and Each give these tokens, and behind them this fault if its number isn't 0.
func want(t *testing.T, s string, list []api.Token, code, at int) {
	t.Helper()
	all, err := lex.Scan(s)
	ahead, fault := each(t, s)
	if !slices.Equal(ahead, list) {
		t.Fatalf("Each(%s) = %+v, want %+v", short(s), ahead, list)
	}
	if code == 0 {
		if err != nil || fault != nil || !slices.Equal(all, list) {
			t.Fatalf("Scan(%s) = %+v, %v, Each's fault %v, want %+v", short(s), all, err, fault, list)
		}
		return
	}
	if len(all) > 0 || !isFault(err, code, at) || !isFault(fault, code, at) {
		t.Fatalf("Scan(%s) = %+v, %v, Each's fault %v, want the code %d at %d", short(s), all, err, fault, code, at)
	}
}

// wantTokens stops the test unless a source has just these tokens and its end.
func wantTokens(t *testing.T, s string, list ...api.Token) {
	t.Helper()
	want(t, s, append(list, end(len(s))), 0, 0)
}

// wantFault stops the test unless a source is refused by this fault, with these tokens ahead of it.
func wantFault(t *testing.T, s string, code, at int, ahead ...api.Token) {
	t.Helper()
	want(t, s, ahead, code, at)
}

// P6.1: the chapter's examples.
func TestExamples(t *testing.T) {
	wantTokens(t, "f(X,-12).", name("f", 0, 1), mark("(", 1), variable("X", 2), mark(",", 3), integer(-12, 4, 7), mark(")", 7), mark(".", 8))
	wantTokens(t, `'a\'b'c`, name("a'b", 0, 6), name("c", 6, 7))
	wantTokens(t, "a :-b", name("a", 0, 1), mark(":-", 2), name("b", 4, 5))
	wantTokens(t, "_1", variable("_1", 0))
	wantTokens(t, "a%b", name("a", 0, 1))
	wantFault(t, "a : b", errByte, 2, name("a", 0, 1))
	wantFault(t, "- 1", errByte, 0)
	wantFault(t, "'a b'", errByte, 2)
	wantFault(t, "''", errName, 0)
	wantFault(t, "007", errInt, 0)
	wantFault(t, "12a", errInt, 0)
	wantFault(t, "-0", errInt, 0)
	wantFault(t, "x 'ab", errOpen, 2, name("x", 0, 1))
	wantFault(t, `'a\n'`, errEscape, 2)
	wantFault(t, `'a\`, errEscape, 2)
}

// P6.1: blanks and remarks at the begin, between tokens and at the end.
func TestBlanksAndRemarks(t *testing.T) {
	wantTokens(t, "")
	wantTokens(t, " ")
	wantTokens(t, " \t\n\r")
	wantTokens(t, "%")
	wantTokens(t, "%\n")
	wantTokens(t, "%%\n%")
	wantTokens(t, "% a 'b \\ \x00\xff\r\n")
	wantTokens(t, "%\n%x\n\n")
	wantTokens(t, " a ", name("a", 1, 2))
	wantTokens(t, "\r\na\t", name("a", 2, 3))
	wantTokens(t, "%b\na%c", name("a", 3, 4))
	wantTokens(t, "%b\ra\nc", name("c", 5, 6))
	wantTokens(t, "a %b%c\n \n%d\nc%e\n", name("a", 0, 1), name("c", 12, 13))
	wantTokens(t, "a%b\nc", name("a", 0, 1), name("c", 4, 5))
	wantTokens(t, "'%'%'", name("%", 0, 3))
	wantTokens(t, "1%2\n3", integer(1, 0, 1), integer(3, 4, 5))
	wantTokens(t, ":-%-\n=", mark(":-", 0), mark("=", 5))
	for _, b := range []string{"\v", "\f", "\x00", "\u00a0", "\u0085", "\u2028"} {
		wantFault(t, "a"+b, errByte, 1, name("a", 0, 1))
	}
	wantFault(t, ":%-\n-1", errByte, 0)
	wantFault(t, "-%\n1", errByte, 0)
}

// P6.1: names and variables, plain and quoted, at the bounds of their length.
func TestNameLengths(t *testing.T) {
	for _, n := range []int{1, 2, 31, 32} {
		for _, c := range "az" {
			s := string(c) + strings.Repeat("Z", n-1)
			wantTokens(t, s, name(s, 0, n))
			wantTokens(t, " "+s+"(", name(s, 1, n+1), mark("(", n+1))
		}
		for _, c := range "AZ_" {
			s := string(c) + strings.Repeat("z", n-1)
			wantTokens(t, s, variable(s, 0))
			wantTokens(t, "%\n"+s+"%", variable(s, 2))
		}
		for _, part := range []string{"a", "Z", "!", "~", "\"", "%"} {
			s := strings.Repeat(part, n)
			wantTokens(t, "'"+s+"'", name(s, 0, n+2))
		}
		for _, part := range []string{"'", "\\"} {
			wantTokens(t, "'"+strings.Repeat("\\"+part, n)+"'", name(strings.Repeat(part, n), 0, 2*n+2))
		}
	}
	for _, n := range []int{33, 34, 64, 1000} {
		for _, c := range []string{"a", "A", "_"} {
			wantFault(t, strings.Repeat(c, n), errName, 0)
			wantFault(t, " 1 "+strings.Repeat(c, n)+"'", errName, 3, integer(1, 1, 2))
		}
		for _, part := range []string{"a", "!", `\'`, `\\`} {
			wantFault(t, "'"+strings.Repeat(part, n)+"'", errName, 0)
			wantFault(t, "( '"+strings.Repeat(part, n)+"'\x00", errName, 2, mark("(", 0))
		}
	}
}

// P6.1: quoted names with escapes, with bytes that may not stand there, and without an end.
func TestQuotedNames(t *testing.T) {
	for s, text := range map[string]string{`'\''`: `'`, `'\\'`: `\`, `'\'a'`: `'a`, `'a\''`: `a'`, `'\\a\\'`: `\a\`, `'\\\''`: `\'`, `'\'\\'`: `'\`, `'\\n'`: `\n`, `'[]'`: "[]", `'.'`: ".", `'12'`: "12", `'X'`: "X", `'a'`: "a", `'-'`: "-", `'\\\\'`: `\\`} {
		wantTokens(t, s, name(text, 0, len(s)))
		wantTokens(t, "X"+s+"1", variable("X", 0), name(text, 1, len(s)+1), integer(1, len(s)+1, len(s)+2))
	}
	wantFault(t, "a ''", errName, 2, name("a", 0, 1))
	wantFault(t, "''''", errName, 0)
	wantFault(t, "'a'''", errName, 3, name("a", 0, 3))
	for _, b := range []string{" ", "\t", "\n", "\r", "\x00", "\x1f", "\x7f", "\x80", "\xff", "é"} {
		wantFault(t, "'"+b+"'", errByte, 1)
		wantFault(t, "'ab"+b, errByte, 3)
		wantFault(t, "'a\\"+b+"'", errEscape, 2)
		wantFault(t, "'a'"+"'\\'"+b, errByte, 6, name("a", 0, 3))
	}
	for _, b := range []string{"n", "t", "a", "\"", "0", "%", "x27"} {
		wantFault(t, "'\\"+b+"'", errEscape, 1)
		wantFault(t, "X '\\\\\\"+b+"'", errEscape, 5, variable("X", 0))
	}
	for _, s := range []string{"'", "'a", "'(", "'%", `'\'`, `'\\`, `'a\'`, "'" + strings.Repeat("a", 33)} {
		wantFault(t, s, errOpen, 0)
		wantFault(t, "1"+s, errOpen, 1, integer(1, 0, 1))
		wantFault(t, "'x'"+s, errOpen, 3, name("x", 0, 3))
	}
	for _, s := range []string{`'\`, `'\\\`, `'a\'\`, "'" + strings.Repeat("a", 40) + `\`} {
		wantFault(t, s, errEscape, len(s)-1)
	}
}

// P6.1: integers at the bounds of their form and of their value.
func TestIntegers(t *testing.T) {
	for _, n := range []int{0, 1, 9, 10, 11, 90, 99, 100, 101, 1000, 123456789, great - 1, great} {
		s := strconv.Itoa(n)
		wantTokens(t, s, integer(n, 0, len(s)))
		wantTokens(t, s+".", integer(n, 0, len(s)), mark(".", len(s)))
		if n > 0 {
			wantTokens(t, "a-"+s+"%", name("a", 0, 1), integer(-n, 1, len(s)+2))
		}
	}
	for _, s := range []string{"00", "01", "007", "000", "0a", "0_", "0Z", "12a", "1_", "1_000", "1A", "1e5", "0x1", "9z", "1125899906842625", "1125899906842630", "2000000000000000", "9223372036854775807", "9223372036854775808", "18446744073709551616", "18446744073709551617", "10000000000000000000000", strings.Repeat("9", 100), "1" + strings.Repeat("0", 64), strings.Repeat("1", 4000) + "a"} {
		wantFault(t, s, errInt, 0)
		wantFault(t, "-"+s, errInt, 0)
		wantFault(t, "X ("+s+")", errInt, 3, variable("X", 0), mark("(", 2))
		wantFault(t, "1-"+s+" ", errInt, 1, integer(1, 0, 1))
	}
	wantFault(t, "-0", errInt, 0)
	wantFault(t, "-0.", errInt, 0)
	wantFault(t, "-00", errInt, 0)
	wantFault(t, "0 -0", errInt, 2, integer(0, 0, 1))
}

// P6.1: signs without digits and colons without a sign are refused; a sign that ends :- is no sign of a number.
func TestSignsAndColons(t *testing.T) {
	for _, s := range []string{"-", "- ", "-a", "-X", "-_1", "--", "--1", "-(", "-:", "-'1'", "-.", ":", ": ", ":a", "::", "::-", ":1", ":=", ": -", ":.", ":%", ":\xad"} {
		wantFault(t, s, errByte, 0)
		wantFault(t, "a "+s, errByte, 2, name("a", 0, 1))
	}
	wantTokens(t, ":-", mark(":-", 0))
	wantTokens(t, ":-1", mark(":-", 0), integer(1, 2, 3))
	wantTokens(t, ":--1", mark(":-", 0), integer(-1, 2, 4))
	wantTokens(t, ":-:-", mark(":-", 0), mark(":-", 2))
	wantFault(t, ":--", errByte, 2, mark(":-", 0))
	wantFault(t, ":-:", errByte, 2, mark(":-", 0))
}

// P6.1: no blank is needed between two tokens, but where they would make one.
func TestSideBySide(t *testing.T) {
	wantTokens(t, "()[],|=./:-", mark("(", 0), mark(")", 1), mark("[", 2), mark("]", 3), mark(",", 4), mark("|", 5), mark("=", 6), mark(".", 7), mark("/", 8), mark(":-", 9))
	wantTokens(t, "a1X_", name("a1X_", 0, 4))
	wantTokens(t, "X1a_", variable("X1a_", 0))
	wantTokens(t, "_aB9", variable("_aB9", 0))
	wantTokens(t, "__", variable("__", 0))
	wantTokens(t, "a 1 X _", name("a", 0, 1), integer(1, 2, 3), variable("X", 4), variable("_", 6))
	wantTokens(t, "1-2-3", integer(1, 0, 1), integer(-2, 1, 3), integer(-3, 3, 5))
	wantTokens(t, "a-2 X-3", name("a", 0, 1), integer(-2, 1, 3), variable("X", 4), integer(-3, 5, 7))
	wantFault(t, "a-2X-3", errInt, 1, name("a", 0, 1))
}

// P6.1: tokens that stand side by side behind what would take them up.
func TestTakenUp(t *testing.T) {
	wantTokens(t, "'a'b'c'", name("a", 0, 3), name("b", 3, 4), name("c", 4, 7))
	wantTokens(t, "'a''b'", name("a", 0, 3), name("b", 3, 6))
	wantTokens(t, "'1'1'X'X", name("1", 0, 3), integer(1, 3, 4), name("X", 4, 7), variable("X", 7))
	wantTokens(t, "a'b'", name("a", 0, 1), name("b", 1, 4))
	wantTokens(t, "X'b'", variable("X", 0), name("b", 1, 4))
	wantTokens(t, "1'b'", integer(1, 0, 1), name("b", 1, 4))
	wantTokens(t, "1.2", integer(1, 0, 1), mark(".", 1), integer(2, 2, 3))
	wantTokens(t, "a.b/2.", name("a", 0, 1), mark(".", 1), name("b", 2, 3), mark("/", 3), integer(2, 4, 5), mark(".", 5))
	wantTokens(t, "[H|T]=[]", mark("[", 0), variable("H", 1), mark("|", 2), variable("T", 3), mark("]", 4), mark("=", 5), mark("[", 6), mark("]", 7))
	wantTokens(t, "a:-b", name("a", 0, 1), mark(":-", 1), name("b", 3, 4))
}

// P6.1: of two faults in one source the one that is met first is answered; that a name is too long is met at its end.
func TestTwoFaults(t *testing.T) {
	long := strings.Repeat("a", 33)
	wantFault(t, "007 :", errInt, 0)
	wantFault(t, ": 007", errByte, 0)
	wantFault(t, "''\x00", errName, 0)
	wantFault(t, "\x00''", errByte, 0)
	wantFault(t, "'' 'a", errName, 0)
	wantFault(t, "'a\\n b", errEscape, 2)
	wantFault(t, "'a b\\n", errByte, 2)
	wantFault(t, "'a b", errByte, 2)
	wantFault(t, long+"\x00", errName, 0)
	wantFault(t, long+" 00", errName, 0)
	wantFault(t, "00"+long, errInt, 0)
	wantFault(t, "'"+long+" '", errByte, 34)
	wantFault(t, "'"+long+"\\a'", errEscape, 34)
	wantFault(t, "'"+long, errOpen, 0)
	wantFault(t, "'"+long+"\\", errEscape, 34)
	wantFault(t, "'"+long+"' :", errName, 0)
	wantFault(t, "a b :c -d", errByte, 4, name("a", 0, 1), name("b", 2, 3))
	wantFault(t, "a b -d :c", errByte, 4, name("a", 0, 1), name("b", 2, 3))
}

// P6.1, P6.2: each byte alone, and behind and ahead of tokens and parts of tokens.
func TestEveryByte(t *testing.T) {
	for b := range 256 {
		for _, frame := range [][2]string{{"", ""}, {"a", ""}, {"X", ""}, {"1", ""}, {"-", ""}, {"-1", ""}, {":", ""}, {":-", ""}, {"'", ""}, {"'", "'"}, {"'a", "b'"}, {"'\\", "'"}, {"'a'", "'"}, {"%", "\na"}, {"", "a"}, {"", "1"}, {"", "-"}, {"(", ")"}, {" ", " "}, {"a %", ""}} {
			s := frame[0] + string([]byte{byte(b)}) + frame[1]
			list, code, at := tokens(s)
			want(t, s, list, code, at)
		}
	}
	for _, b := range []int{0, '!', '"', '#', '$', '&', '*', '+', ';', '<', '>', '?', '@', '\\', '^', '`', '{', '}', '~', 0x7f, 0x80, 0xc3, 0xff} {
		wantFault(t, string([]byte{byte(b)}), errByte, 0)
		wantFault(t, "a\n"+string([]byte{byte(b)})+"b", errByte, 2, name("a", 0, 1))
	}
}

// P6.1, P6.2: all sources of up to five bytes out of those that matter, against the oracle.
func TestAllShortSources(t *testing.T) {
	const bytes = "bZ_01-'\\%: \n(.~\x80"
	var good, bad int
	var try func(s string, more int)
	try = func(s string, more int) {
		list, code, at := tokens(s)
		want(t, s, list, code, at)
		if code == 0 {
			good++
		} else {
			bad++
		}
		for i := range len(bytes) {
			if more > 0 {
				try(s+bytes[i:i+1], more-1)
			}
		}
	}
	try("", 5)
	if good < 10000 || bad < 10000 {
		t.Errorf("%d good, %d bad", good, bad)
	}
}

// dice gives scattered numbers, the same ones for the same beginning.
type dice uint64

func (d *dice) below(n int) int {
	*d = *d*6364136223846793005 + 1442695040888963407
	return int(uint64(*d)>>33) % n
}

// part is a part of a source, as a rule a good one.
func (d *dice) part() string {
	const word = "abzABZ019_"
	some := func(bytes string, n int) string {
		var out strings.Builder
		for range n {
			out.WriteByte(bytes[d.below(len(bytes))])
		}
		return out.String()
	}
	switch d.below(12) {
	case 0, 1:
		return some("az", 1) + some(word, d.below(34)*d.below(2))
	case 2:
		return some("AZ_", 1) + some(word, d.below(34)*d.below(2))
	case 3:
		return []string{"", "-"}[d.below(2)] + some("19", 1) + some("0123456789", d.below(16))
	case 4:
		return "%" + some("a' %\\\x80", d.below(9)) + "\n"
	case 5, 6:
		return some(" \t\n\r", 1+d.below(3))
	case 7, 8:
		return []string{"(", ")", "[", "]", ",", "|", "=", ".", "/", ":-"}[d.below(10)]
	case 9:
		return "'" + strings.ReplaceAll(some("aZ9!~%\\", 1+d.below(34)), "\\", `\\`) + "'"
	case 10:
		return "'" + strings.ReplaceAll(some("a'", 1+d.below(20)), "'", `\'`) + "'"
	}
	return some("aA0-:'\\% .\x00\x7f\xff", 1) + some("'\\n", d.below(2)*d.below(4))
}

// source is parts side by side.
func (d *dice) source(parts int) string {
	var out strings.Builder
	for range parts {
		out.WriteString(d.part())
	}
	return out.String()
}

// P6.1, P6.2: scattered sources against the oracle.
func TestManySources(t *testing.T) {
	codes := map[int]int{}
	for seed := range 40000 {
		d := dice(seed)
		s := d.source(d.below(20))
		list, code, at := tokens(s)
		want(t, s, list, code, at)
		codes[code]++
	}
	for _, code := range []int{0, errByte, errName, errInt, errOpen, errEscape} {
		if codes[code] < 200 {
			t.Errorf("%d sources have the code %d", codes[code], code)
		}
	}
}

// P6.1: tokens lie one behind the other, and between them stand blanks and remarks alone.
func TestBetweenTokens(t *testing.T) {
	gaps := 0
	for seed := range 5000 {
		d := dice(seed)
		s := d.source(d.below(12))
		list, err := lex.Scan(s)
		if err != nil {
			continue
		}
		from := 0
		for i, x := range list {
			if x.At < from || gapForm.FindString(s[from:x.At]) != s[from:x.At] {
				t.Fatalf("%q: %q stands ahead of %+v", s, s[from:max(from, x.At)], x)
			}
			if last := i == len(list)-1; last != (x.Kind == 0) || last != (x.End == x.At) || last && x.At != len(s) {
				t.Fatalf("%q: %+v is the token %d of %d", s, x, i, len(list))
			}
			gaps += min(1, x.At-from)
			from = x.End
		}
	}
	if gaps < 2000 {
		t.Errorf("%d gaps", gaps)
	}
}

// P6.1, P6.2: sources of the greatest length, and longer ones.
func TestLongestSources(t *testing.T) {
	blanks := strings.Repeat(" ", longest-1)
	wantTokens(t, blanks+"\n")
	wantTokens(t, blanks+"a", name("a", longest-1, longest))
	wantTokens(t, "a"+blanks, name("a", 0, 1))
	wantTokens(t, "%"+blanks)
	wantTokens(t, strings.Repeat("%\n", longest/2))
	wantFault(t, blanks+":", errByte, longest-1)
	wantFault(t, blanks+"-", errByte, longest-1)
	wantFault(t, blanks+"'", errOpen, longest-1)
	wantFault(t, strings.Repeat("a", longest), errName, 0)
	wantFault(t, strings.Repeat("1", longest), errInt, 0)
	wantFault(t, "-"+strings.Repeat("9", longest-1), errInt, 0)
	wantFault(t, "'"+strings.Repeat("a", longest-2)+"'", errName, 0)
	wantFault(t, "'"+strings.Repeat("a", longest-1), errOpen, 0)
	wantFault(t, "'"+strings.Repeat("a", longest-2)+" ", errByte, longest-1)
	wantFault(t, "'"+strings.Repeat("a", longest-2)+"\\", errEscape, longest-1)
	wantFault(t, "'"+strings.Repeat("a", longest-3)+"\\'", errOpen, 0)
	for _, s := range []string{blanks + "  ", blanks + "a ", ":" + blanks + " ", "a" + blanks + "'", blanks + blanks, strings.Repeat("00", longest)} {
		wantFault(t, s, errLong, longest)
	}
}

// P6.1: as many tokens as there can be.
func TestMostTokens(t *testing.T) {
	list, err := lex.Scan(strings.Repeat("(.=", longest/3) + "]")
	if err != nil || len(list) != longest+1 || list[longest] != end(longest) || list[longest-1] != mark("]", longest-1) {
		t.Fatal(len(list), err)
	}
	for i, x := range list[:longest-1] {
		if x != mark("(.="[i%3:i%3+1], i) {
			t.Fatalf("%d: %+v", i, x)
		}
	}
}

// P6.2: an iterator may be gone over again, also behind a fault that somebody wrote over, and by several at one time.
func TestEachAgain(t *testing.T) {
	for _, s := range []string{"", "a", "f(X,-12).", "a b :c", "''", strings.Repeat(" ", longest+1)} {
		list, code, at := tokens(s)
		seq := lex.Each(s)
		for range 3 {
			var got []api.Token
			for token, err := range seq {
				if err == nil {
					got = append(got, token)
					continue
				}
				if !isFault(err, code, at) {
					t.Fatalf("%s: %v", short(s), err)
				}
				*err.(*api.Fault) = api.Fault{Code: 1, At: 7, Name: "x"}
			}
			if !slices.Equal(got, list) {
				t.Fatalf("%s: %+v, want %+v", short(s), got, list)
			}
		}
	}
}

// P6.2: one pass goes on within another, and goroutines go over one iterator side by side.
func TestEachWithinEach(t *testing.T) {
	const s = "a 'b' C 1 :- ."
	list, _ := lex.Scan(s)
	seq := lex.Each(s)
	n := 0
	for outer := range seq {
		if outer != list[n] {
			t.Fatal(n, outer)
		}
		n++
		k := 0
		for inner := range seq {
			if inner != list[k] {
				t.Fatal(n, k, inner)
			}
			k++
		}
		if k != len(list) {
			t.Fatal(n, k)
		}
	}
	var all sync.WaitGroup
	var got [8][]api.Token
	for i := range got {
		all.Go(func() {
			for token := range seq {
				got[i] = append(got[i], token)
			}
		})
	}
	all.Wait()
	for i := range got {
		if n != len(list) || !slices.Equal(got[i], list) {
			t.Error(n, got[i])
		}
	}
}

// P6.2: who stops early gets no more, at the end and at a fault too, and may begin again.
func TestEachLeftEarly(t *testing.T) {
	for _, s := range []string{"", "a", "f(X,-12). 'b'", "a b :c", "'", strings.Repeat("a", longest+1)} {
		list, code, _ := tokens(s)
		most := len(list)
		if code != 0 {
			most++
		}
		seq := lex.Each(s)
		for stop := 1; stop <= most; stop++ {
			given := 0
			seq(func(token api.Token, err error) bool {
				given++
				if (err == nil) != (given <= len(list)) || err == nil && token != list[given-1] {
					t.Fatalf("%s: %d: %+v, %v", short(s), given, token, err)
				}
				return given < stop
			})
			if given != stop {
				t.Fatalf("%s: stopped at %d, given %d", short(s), stop, given)
			}
		}
		// Whoever never stops gets no more either.
		given := 0
		seq(func(api.Token, error) bool { given++; return true })
		if given != most {
			t.Errorf("%s: given %d of %d", short(s), given, most)
		}
	}
}

// The forms of names and variables, for the oracle of Quote and IsVar.
var (
	plainForm    = regexp.MustCompile(`^[a-z][A-Za-z0-9_]{0,31}$`)
	variableForm = regexp.MustCompile(`^[A-Z_][A-Za-z0-9_]{0,31}$`)
)

// wantWords stops the test unless Quote and IsVar answer of a text as the document says; where the text is a name, what Quote answers is scanned again.
func wantWords(t *testing.T, s string) {
	t.Helper()
	quote := s
	if !plainForm.MatchString(s) {
		quote = "'" + strings.NewReplacer("'", `\'`, `\`, `\\`).Replace(s) + "'"
	}
	if got := lex.Quote(s); got != quote {
		t.Fatalf("Quote(%s) = %s, want %s", short(s), short(got), short(quote))
	}
	if got := lex.IsVar(s); got != variableForm.MatchString(s) {
		t.Fatalf("IsVar(%s) = %v", short(s), got)
	}
	isName := len(s) >= 1 && len(s) <= 32
	for i := range len(s) {
		isName = isName && s[i] >= 0x21 && s[i] <= 0x7e
	}
	list, err := lex.Scan(quote)
	one := err == nil && slices.Equal(list, []api.Token{name(s, 0, len(quote)), end(len(quote))})
	if one != isName {
		t.Fatalf("Scan(Quote(%s)) = %+v, %v", short(s), list, err)
	}
}

// P6.3: the chapter's examples, and texts at the edges.
func TestQuote(t *testing.T) {
	for s, quote := range map[string]string{"ab": "ab", "Ab": "'Ab'", "[]": "'[]'", `a'\`: `'a\'\\'`, "": "''", "'": `'\''`, `\`: `'\\'`, "a1_Z": "a1_Z", "a b": "'a b'", "1": "'1'", "_": "'_'", "-1": "'-1'", ".": "'.'", "a-": "'a-'", "é": "'é'", "\x00\xff\n": "'\x00\xff\n'", "a%": "'a%'", `\\''`: `'\\\\\'\''`} {
		if got := lex.Quote(s); got != quote {
			t.Errorf("Quote(%q) = %q, want %q", s, got, quote)
		}
		wantWords(t, s)
	}
	for _, n := range []int{1, 2, 31, 32, 33, 34, 100, 5000} {
		for _, part := range []string{"a", "z", "Z", "_", "0", "'", `\`, "[", "\x80"} {
			wantWords(t, strings.Repeat(part, n))
			wantWords(t, "a"+strings.Repeat(part, n-1))
			wantWords(t, "A"+strings.Repeat(part, n-1))
		}
	}
	wantWords(t, strings.Repeat("a'", longest))
}

// P6.3: variables, and texts that are none.
func TestIsVar(t *testing.T) {
	for _, s := range []string{"X", "A", "Z", "_", "__", "_1", "_a", "Xy", "X_1", "E12", strings.Repeat("X", 32), "_" + strings.Repeat("z", 31)} {
		if !lex.IsVar(s) {
			t.Errorf("%q is a variable", s)
		}
	}
	for _, s := range []string{"", "x", "1", "-1", "X ", " X", "X-", "X\n", "\nX", "X%", "X.Y", "X Y", "x_", "1X", "'X'", "[", "@", "`", "{", "X\x00", "É", "X\xff", strings.Repeat("X", 33), "_" + strings.Repeat("_", 32), strings.Repeat("X", longest)} {
		if lex.IsVar(s) {
			t.Errorf("%q is no variable", s)
		}
	}
}

// P6.3: each byte alone, in pairs, and scattered texts.
func TestWords(t *testing.T) {
	for b := range 256 {
		for c := range 256 {
			wantWords(t, string([]byte{byte(b), byte(c)}))
		}
		wantWords(t, string([]byte{byte(b)}))
		wantWords(t, "a"+string([]byte{byte(b)})+"c")
		wantWords(t, "X"+string([]byte{byte(b)})+"_")
	}
	for seed := range 20000 {
		d := dice(seed)
		s := make([]byte, d.below(36))
		for i := range s {
			s[i] = byte(0x21 + d.below(0x5e))
			if d.below(4) == 0 {
				s[i] = `'\aZ_`[d.below(5)]
			}
		}
		wantWords(t, string(s))
	}
}

// held is how many bytes are in use when all that nobody holds any more is given back.
func held() uint64 {
	var m runtime.MemStats
	runtime.GC()
	runtime.ReadMemStats(&m)
	return m.HeapAlloc
}

// P2 (R6): tokens and quoted names are new memory: they don't hold the sources that they are of.
func TestNewMemory(t *testing.T) {
	before := held()
	var out []api.Token
	var words []string
	for n := range 8 {
		source := strings.Repeat(" ", 1<<21) + "Var" + strconv.Itoa(n) + " name" + strconv.Itoa(n) + " 'q' :- ("
		list, err := lex.Scan(source)
		if err != nil {
			t.Fatal(err)
		}
		out = append(out, list...)
		for token := range lex.Each(source) {
			out = append(out, token)
		}
		words = append(words, lex.Quote(source[1<<21+5:1<<21+10]))
	}
	if after := held(); after > before+1<<21 {
		t.Errorf("%d bytes are held for short tokens", after-before)
	}
	// The answers are asked behind it, so that they are alive while the bytes are counted.
	if out[0].Text != "Var0" || out[len(out)-2].Text != "(" || words[0] != "name0" || words[7] != "name7" {
		t.Error("other tokens", words)
	}
}

// P2 (R6): lists of two calls share no memory, spare room included.
func TestListsAreTheirOwn(t *testing.T) {
	const s = "a(B,1)."
	first, _ := lex.Scan(s)
	second, _ := lex.Scan(s)
	for i := range first[:cap(first)] {
		first[:cap(first)][i] = api.Token{Kind: 9, Text: "x", Num: 9, At: 9, End: 9}
	}
	third, _ := lex.Scan(s)
	list, _, _ := tokens(s)
	if !slices.Equal(second, list) || !slices.Equal(third, list) {
		t.Error(second, third)
	}
	_, err := lex.Scan("'")
	_, again := lex.Scan("'")
	*err.(*api.Fault) = api.Fault{}
	if !isFault(again, errOpen, 0) {
		t.Error(again)
	}
}
