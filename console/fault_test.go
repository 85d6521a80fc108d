package console_test

import (
	"errors"
	"strings"
	"testing"

	"tendril/api"
	"tendril/console"
	"tendril/session"
)

// P20.1: what load refuses: faults of layers 6, 7, 8, 16, 17, 3 and 18, with At and without, with a Name and without, with one, two and three Causes.
func TestLoadRefused(t *testing.T) {
	for source, told := range map[string]string{
		"p('":                     "at 2 by 70 at 2 by 64 at 2",
		"'":                       "at 0 by 70 at 0 by 64 at 0",
		"p. q 'a b'.":             "at 7 by 70 at 7 by 61 at 7",
		"p(007).":                 "at 2 by 70 at 2 by 63 at 2",
		"p('\\x').":               "at 3 by 70 at 3 by 65 at 3",
		"''.":                     "at 0 by 70 at 0 by 62 at 0",
		"p :- X.":                 "at 6 by 71 at 6",
		"[].":                     "at 0 by 71 at 0",
		"p :- q":                  "at 6 by 72 at 6",
		"p":                       "at 1 by 72 at 1",
		"co p/9.":                 "at 5 by 74 at 5",
		"p(1,2,3,4,5,6,7,8,9).":   "at 18 by 74 at 18",
		"p :- q.":                 "at 0 by 166 at 0 of q/0",
		"p. p :- 'Q'(a, b).":      "at 1 by 166 at 1 of 'Q'/2",
		"co p/1. co p/1.":         "at 1 by 165 at 1",
		"p. dif(X, Y) :- p.":      "at 1 by 163 at 1",
		"'[]'.":                   "at 0 by 163 at 0",
		"p. p :- p, '.'(a, b).":   "at 1 by 164 at 1",
		"co p/0. p :- q. q :- p.": "at 0 by 170 at 0 of p/0",
		repeated("p. ", 257):      "at 257 by 160 at 257",
		"p :- p" + strings.Repeat(", p", mostGoals) + ".":                "at 0 by 161 at 0",
		"p. q([" + list("a#", 2999) + ",b]) :- p.":                       "at 1 by 162 at 1 by 85 at 6001",
		repeated("co p#/0. ", mostPreds) + "q.":                          "at 129 by 167 at 129",
		"p([" + list("a#", 600) + "]). q([" + list("b#", 423) + "]).":    "by 180 by 31 of b422",
		strings.Repeat("f(", mostNest+1) + "a":                           "at 8194 by 73 at 8194",
		"p" + strings.Repeat(" ", mostSource) + ".":                      "at 4194304 by 70 at 4194304 by 60 at 4194304",
		"p([" + list("a#", 600) + "]). q([" + list("b#", 422) + "], c).": "by 180 by 31 of c",
		"p([" + list("a#", 600) + "]). q([" + list("b#", 422) + "]).":    "",
	} {
		if told == "" {
			wantNew(t, "load "+source, "ok\n")
			continue
		}
		wantNew(t, "load "+source, "error 190 "+told+"\n")
		wantNew(t, "\t"+stream+" load \t\r"+source+"\r\npreds", "ok\nerror 190 "+told+"\nco s/1\n")
	}
}

// P20.1: what ask refuses, as what load does; and by the machine: no names, no room.
func TestAskRefused(t *testing.T) {
	for source, told := range map[string]string{
		"":                     "at 0 by 72 at 0",
		"s(X":                  "at 3 by 72 at 3",
		"X.":                   "at 1 by 71 at 1",
		"X = a. b":             "at 7 by 71 at 7",
		"X = 'a":               "at 4 by 70 at 4 by 64 at 4",
		"q(X).":                "at 0 by 166 at 0 of q/1",
		"X = a, s(X), 'Q'.":    "at 2 by 166 at 2 of 'Q'/0",
		"s(a), '.'(a, b).":     "at 1 by 164 at 1",
		"f(1,2,3,4,5,6,7,8,9)": "at 18 by 74 at 18",
		"s(a)" + strings.Repeat(", s(a)", mostGoals) + ".": "at 33 by 161 at 33",
		"s([" + list("a", 3000) + "]).":                    "by 162 by 85 at 6001",
		"X = f([" + list("a#", 1022) + "]).":               "by 180 by 31 of []",
		"X = f([" + list("a#", 1023) + "]).":               "by 180 by 31 of a1022",
		"X = [" + list("#", 1700) + "].":                   "at 5104 by 183 at 5104 by 112 at 5104 by 22 at 5104",
	} {
		wantNew(t, "ask "+source, "error 191 by 181\n")
		c := open(t, 5000)
		wantRun(t, c, stream+"ask X = a.\nask "+source+"\nnext\nproof\nused", "ok\nok\nerror 191 "+told+"\nerror 192 by 181\nerror 192 by 181\n0\n")
	}
}

// P20.1: what next and all refuse: no query, a spent budget, no room, too many disequalities, too large an answer; and what proof does.
func TestNextRefused(t *testing.T) {
	wantNew(t, "next\nall 2 3\nproof\n"+stream+"next 1\nall 2 3\nproof", strings.Repeat("error 192 by 181\n", 3)+"ok\n"+strings.Repeat("error 192 by 181\n", 3))
	wantNew(t, stream+"ask s(X).\nproof\nnext\nload s.\nproof", "ok\nok\nerror 192 by 184\nX = E1 where E1 = [V1|E1]\nok\nerror 192 by 181\n")
	wantNew(t, "load l :- l.\nask l.\nnext 3\nproof\nall 4 5\nproof", "ok\nok\nerror 192 by 182\nerror 192 by 184\nerror 192 by 182\nerror 192 by 184\n")
	wantNew(t, member+"ask m(X, [a]).\nnext\nnext\nproof", "ok\nok\nX = a\nno\nerror 192 by 184\n")
	full := "load p(a). p([" + list("a", 10) + "]).\nask p(X).\nall 4 9\nnext\nproof"
	wantRun(t, open(t, 33), full, "ok\nok\nX = a\n"+strings.Repeat("error 192 at 31 by 183 at 31 by 112 at 31 by 22 at 31\n", 2)+"error 192 by 184\n")
	wantRun(t, open(t, 34), full, "ok\nok\nX = a\nX = E1 where E1 = ["+list("a", 10)+"]\nno\nno\nerror 192 by 184\n")
	difs := "load " + repeated("d#(X) :- "+list("dif(X, #)", mostGoals)+". ", 9) + "\nask " + list("d#(Y)", 8) + ", dif(Y, last).\nnext\nall 3 9999\nproof"
	wantRun(t, open(t, 20000), difs, "ok\nok\n"+strings.Repeat("error 192 at 256 by 141 at 256\n", 2)+"error 192 by 184\n")
	large := "load t(" + list0(1000) + "). two(X, Y) :- t(X), t(Y). two(a, a).\nask two(X, Y).\nnext\nproof\nall 2 99\nproof"
	wantRun(t, open(t, mostWords), large, "ok\nok\nerror 192 by 185 by 117 at 5001\nerror 192 by 185 by 117 at 5001\nX = a, Y = a\nno\nerror 192 by 184\n")
}

// P20.1: what show refuses.
func TestShowRefused(t *testing.T) {
	for rest, told := range map[string]string{
		"f(": "at 2 by 72 at 2", "f(X": "at 3 by 72 at 3", "a b": "at 2 by 71 at 2", "'a": "at 0 by 70 at 0 by 64 at 0", "a, : b": "at 3 by 70 at 3 by 61 at 3", "f(1,2,3,4,5,6,7,8,9)": "at 18 by 74 at 18",
		"X where X = a, X = b": "at 1 by 84 at 1 of X", "a where _ = b": "at 0 by 83 at 0 of _", "1125899906842625": "at 0 by 70 at 0 by 63 at 0",
		list("X", mostNodes+1):                   "at 4097 by 80 at 4097",
		"a where " + list("X# = a", mostNodes+1): "at 4097 by 82 at 4097",
		strings.Repeat("f(", mostNest+1) + "a":   "at 8194 by 73 at 8194",
		"[" + list("a", 2048) + "]":              "at 4097 by 85 at 4097",
		strings.Repeat("a ", mostSource/2) + "b": "at 4194304 by 70 at 4194304 by 60 at 4194304",
	} {
		wantNew(t, "show "+rest, "error 91 "+told+"\n")
		wantNew(t, "unify "+rest, "error 91 "+told+"\n")
		wantNew(t, "differ "+rest, "error 91 "+told+"\n")
	}
	wantNew(t, "show ["+list("a", 2047)+"]", "E1 where E1 = ["+list("a", 2047)+"]\n")
}

// P20.1: a nil console: commands that the session carries out are told as its call of a nil session; the others as ever.
func TestNilConsole(t *testing.T) {
	var c *console.Console
	for range 2 {
		for text, told := range map[string]string{
			"load": "error 1\n", "load p.": "error 1\n", "load p :-": "error 1\n", "ask": "error 1\n", "ask X = a.": "error 1\n", "ask '": "error 1\n",
			"next": "error 1\n", "next 0": "error 1\n", "next 5": "error 1\n", "next x": "error 201 of next\n", "next 05": "error 201 of next\n",
			"all 1 1": "error 1\n", "all 9 9": "error 1\n", "all 0 9": "", "all 1": "error 201 of all\n", "all": "error 201 of all\n",
			"used": "0\n", "used 1": "error 201 of used\n", "compact": "error 1\n", "compact 1": "error 201 of compact\n", "preds": "", "preds 1": "error 201 of preds\n",
			"proof": "error 192 by 181\n", "proof 1": "error 201 of proof\n",
			"show f(X, X) where X = g(X)": "E1 where E1 = f(E2,E2), E2 = g(E2)\n", "show": "\n", "show f(": "error 91 at 2 by 72 at 2\n",
			"unify f(X, a), f(b, Y)": "E1, E1 where E1 = f(b,a)\n", "unify a, b": "no\n", "unify a": "error 201 of unify\n", "differ X, f(X)": "open\n", "differ a, b": "apart\n", "differ a, a": "same\n", "differ": "error 201 of differ\n",
			"frob": "error 200 of frob\n", "%": "", " ": "", "": "", "load p.\nask p.\nnext\nused": "error 1\nerror 1\nerror 1\n0\n",
		} {
			wantRun(t, c, text, told)
		}
	}
	// As the calls of a nil session are.
	var s *session.Session
	_, _, next := s.Next(1)
	_, compact := s.Compact()
	_, answer := s.Answer()
	wantRun(t, c, "load p.\nask p.\nnext\ncompact\nproof", console.Tell(s.Load("p."))+"\n"+console.Tell(s.Query("p."))+"\n"+console.Tell(next)+"\n"+console.Tell(compact)+"\n"+console.Tell(answer)+"\n")
	if !errors.Is(next, api.Errno(errNil)) {
		t.Error(next)
	}
}
