package console_test

import (
	"strconv"
	"strings"
	"testing"

	"tendril/console"
)

// P20.1: lines without other bytes than blanks, and remarks, are passed over; by a new console, by one in the midst of answers, and by a nil one.
func TestPassedOver(t *testing.T) {
	busy := open(t, 5000)
	wantRun(t, busy, member+"ask m(X, [a,b]).\nnext", "ok\nok\nX = a\n")
	var none *console.Console
	for _, text := range []string{
		"", "\n", "\n\n\n", " ", "\t", "\r", " \t\r\r \t", " \n\t\n\r\n", "\r\n\r\n", "%", "%%", "% next", "%next", " %", "\t% x", "\r%\r", " \t\r %show a\n\n % \n%", "%\x00\xff", "% used\r",
		strings.Repeat(" \t\r", 100000), strings.Repeat("\n", 100000), strings.Repeat("%x\n \n", 50000), "%" + strings.Repeat("used ", 100000),
	} {
		for _, c := range []*console.Console{open(t, 1), busy, none} {
			wantRun(t, c, text, "")
		}
	}
	wantRun(t, busy, "next\nnext", "X = b\nno\n")
}

// P20.1: blanks ahead of a command, behind it, and behind its rest are no part of it; each of the three, and rows of them.
func TestBlanks(t *testing.T) {
	rows := []string{" ", "\t", "\r", "  ", "\t\t", "\r\r", " \t\r", "\r\t ", strings.Repeat(" \r\t", 1000)}
	for i, ahead := range append(rows, "") {
		for k, between := range rows {
			for _, behind := range append(rows, "") {
				c := open(t, 5000)
				text := ahead + "load" + between + "p(a). p(b)." + behind
				wantRun(t, c, text, "ok\n")
				wantRun(t, c, ahead+"preds"+behind+"\n"+ahead+"ask"+between+"p(X)."+behind, "p/1\nok\n")
				wantRun(t, c, ahead+"all"+between+"1"+between+"7"+behind+"\n"+ahead+"next"+behind+"\n"+ahead+"next"+between+"7"+behind, "X = a\nX = b\nno\n")
				wantRun(t, c, ahead+"used"+behind, "2\n")
				if i == k {
					wantRun(t, c, ahead+"show"+between+"a , b"+behind+"\n"+ahead+"frob"+between+"x"+behind, "a, b\nerror 200 of frob\n")
				}
			}
		}
	}
	// Without a blank there is no command's end.
	wantNew(t, "loadp.\nask,\nnext1\nall2 3\nshow(a)\nused\x0b\nused%\nused% 1\nshow%", "error 200 of loadp.\nerror 200 of ask,\nerror 200 of next1\nerror 200 of all2\nerror 200 of show(a)\nerror 200 of used\x0b\nerror 200 of used%\nerror 200 of used%\nerror 200 of show%\n")
}

// P20.1: no other byte is a blank, nor ends a line: below 0x21 and above 0x7e, ahead of a command, in it, behind it and alone.
func TestOtherBytes(t *testing.T) {
	for b := range 256 {
		text := string([]byte{byte(b)})
		switch text {
		case " ", "\t", "\r", "\n", "%":
			continue
		}
		wantNew(t, text, "error 200 of "+text+"\n")
		wantNew(t, " "+text+"\r", "error 200 of "+text+"\n")
		wantNew(t, text+"used", "error 200 of "+text+"used\n")
		wantNew(t, text+" used", "error 200 of "+text+"\n")
		wantNew(t, text+"% used", "error 200 of "+text+"%\n")
		wantNew(t, "used"+text, "error 200 of used"+text+"\n")
		wantNew(t, "us"+text+"ed 1", "error 200 of us"+text+"ed\n")
		wantNew(t, "used "+text, "error 201 of used\n")
		wantNew(t, "used "+text+" ", "error 201 of used\n")
		if text < "0" || text > "9" {
			wantNew(t, "next "+text, "error 201 of next\n")
			wantNew(t, "next 1"+text, "error 201 of next\n")
			wantNew(t, "next "+text+"1", "error 201 of next\n")
			wantNew(t, "all 1"+text+" 1", "error 201 of all\n")
			wantNew(t, "all 1 1"+text, "error 201 of all\n")
			wantNew(t, "all 1 "+text+"1", "error 201 of all\n")
			wantNew(t, "all "+text+"1 1", "error 201 of all\n")
			wantNew(t, "all 1"+text+"1", "error 201 of all\n")
		}
		if text < "!" || text > "~" {
			wantNew(t, "show "+text, "error 91 at 0 by 70 at 0 by 61 at 0\n")
			wantNew(t, "show a"+text, "error 91 at 1 by 70 at 1 by 61 at 1\n")
			wantNew(t, "load "+text, "error 190 at 0 by 70 at 0 by 61 at 0\n")
			wantNew(t, "load p."+text, "error 190 at 2 by 70 at 2 by 61 at 2\n")
		}
	}
	// Letters of several bytes, some of which look like blanks or digits.
	for _, text := range []string{"\u00a0", "\u2003", "\u3000", "\u0085", "\ufeff", "é", "\ufffd", "\xe2\x80", "\xc2", "１"} {
		wantNew(t, text, "error 200 of "+text+"\n")
		wantNew(t, text+"used "+text, "error 200 of "+text+"used\n")
		wantNew(t, "used"+text+" "+text, "error 200 of used"+text+"\n")
		wantNew(t, "\xe2 \x80", "error 200 of \xe2\n")
		wantNew(t, "used "+text+"\nnext 1"+text+"\nall 1"+text+"1", "error 201 of used\nerror 201 of next\nerror 201 of all\n")
	}
}

// P20.1: a text has one line more than bytes 0x0a; the last one needs none behind it.
func TestLastLine(t *testing.T) {
	wantNew(t, "used", "0\n")
	wantNew(t, "used\n", "0\n")
	wantNew(t, "\nused", "0\n")
	wantNew(t, "\n\n\nused\n\n\nused\n\n", "0\n0\n")
	wantNew(t, "used\r\n\r\nused\r", "0\n0\n")
	wantNew(t, "used\rused", "error 201 of used\n")
	wantNew(t, "% used\nused\n% used", "0\n")
	wantNew(t, "show a\n, b", "a\nerror 200 of ,\n")
	wantNew(t, "load p. % remark\nload q.\npreds", "ok\nok\nq/0\n")
	wantNew(t, strings.Repeat("used\n", 20000), strings.Repeat("0\n", 20000))
	wantNew(t, strings.Repeat("\n", 50000)+"show"+strings.Repeat("\n", 50000), "\n")
}

// P20.1: what is no command: capitals, parts of names, names that go on, and names of this language that are none.
func TestNoCommand(t *testing.T) {
	names := []string{"load", "ask", "next", "all", "used", "compact", "preds", "proof", "show", "unify", "differ"}
	for _, name := range names {
		for _, text := range []string{strings.ToUpper(name), strings.ToUpper(name[:1]) + name[1:], name[:len(name)-1], name[1:], name + "s", name + "x", name + ".", name + "1", "-" + name, name + name, "'" + name + "'", name + ":", name[:2] + "%" + name[2:]} {
			for _, rest := range []string{"", " ", " p.", "\tX = a.", " 1", " 1 1", " a, b"} {
				wantNew(t, text+rest, "error 200 of "+text+"\n")
			}
		}
		for at := range len(name) - 1 {
			wantNew(t, name[:at+1]+" "+name[at+1:], "error 200 of "+name[:at+1]+"\n")
		}
	}
	for _, text := range []string{"frob", "co", "dif", "where", "quit", "help", "ok", "error", "no", "yes", "0", "_", "X", "dump", "roots", "answer", "query", "compile", "run", "tell", "open", "?-", "p.", strings.Repeat("load", 10000)} {
		wantNew(t, text, "error 200 of "+text+"\n")
		wantNew(t, " "+text+" used", "error 200 of "+text+"\n")
	}
	// It changes nothing.
	wantNew(t, member+"ask m(X, [a,b]).\nnext\nfrob\nNext\nlo ad\nnext", "ok\nok\nX = a\nerror 200 of frob\nerror 200 of Next\nerror 200 of lo\nX = b\n")
}

// P20.1: used, compact, preds and proof have nothing behind them.
func TestNothingMayBe(t *testing.T) {
	for _, command := range []string{"used", "compact", "preds", "proof"} {
		for _, rest := range []string{"1", "0", ".", "%", "% x", "x", command, "\x00", "\xff", "-", "1 1"} {
			wantNew(t, command+" "+rest, "error 201 of "+command+"\n")
			wantNew(t, "\t"+command+"\r"+rest+"\t", "error 201 of "+command+"\n")
		}
	}
	wantNew(t, member+"ask m(X, [a,b]).\nnext\ncompact 1\nproof 0\npreds all\nused %\nused\nnext", "ok\nok\nX = a\nerror 201 of compact\nerror 201 of proof\nerror 201 of preds\nerror 201 of used\n1\nX = b\n")
}

// numbers is what is one, and no numbers is what is none.
func numbers() []string {
	return []string{"0", "1", "2", "9", "10", "99", "100", "909", "1000", "10000", "65536", "99999", "100000", "999999", "500000"}
}

func noNumbers() []string {
	return []string{"00", "01", "007", "000000", "0000001", "012345", "1000000", "9999999", "10000000000000000000000", "-1", "+1", "-0", "+0", "1.", "1.0", "1e3", "0x1", "1_0", "_1", "1,0", "a", "X", "1a", "a1", "1-", "''", "%", "%1", "1%", "one", "１", "٣", "\x00", "\x000", "1\x0b", "\x0b1", "1\x0c", "1\x00"}
}

// P20.1: next takes a number, and nothing else.
func TestNextNumbers(t *testing.T) {
	for _, n := range numbers() {
		wantNew(t, "next "+n, "error 192 by 181\n")
		wantNew(t, "next\t\r"+n+" \r", "error 192 by 181\n")
		for _, also := range []string{"1", "0", n, "x", "%"} {
			wantNew(t, "next "+n+" "+also, "error 201 of next\n")
		}
	}
	for _, n := range noNumbers() {
		wantNew(t, "next "+n, "error 201 of next\n")
		wantNew(t, "next \t"+n+"\t ", "error 201 of next\n")
	}
	wantNew(t, member+"ask m(X, [a,b]).\nnext\nnext 01\nnext 1 1\nused\nnext 9", "ok\nok\nX = a\nerror 201 of next\nerror 201 of next\n1\nX = b\n")
}

// P20.1: all takes two numbers with blanks between, and nothing else.
func TestAllNumbers(t *testing.T) {
	told := map[bool]string{true: "error 192 by 181\n"}
	for _, count := range numbers() {
		for _, between := range []string{" ", "\t", "\r", "  ", " \t \r "} {
			for _, budget := range numbers() {
				wantNew(t, "all "+count+between+budget+"\r", told[count != "0"])
			}
			for _, other := range noNumbers() {
				wantNew(t, "all "+count+between+other, "error 201 of all\n")
				wantNew(t, "all "+other+between+count, "error 201 of all\n")
			}
			for _, more := range []string{"1", "0", "x", "%", "% remark"} {
				wantNew(t, "all "+count+between+"5"+between+more, "error 201 of all\n")
			}
		}
		wantNew(t, "all "+count, "error 201 of all\n")
		for _, mark := range []string{",", ".", "/", "|", "-", "\x0b", "\x0c", "\x00", "\u00a0", "\u2003"} {
			wantNew(t, "all "+count+mark+"5", "error 201 of all\n")
			wantNew(t, "all "+count+mark+" 5", "error 201 of all\n")
			wantNew(t, "all "+count+" "+mark+"5", "error 201 of all\n")
			wantNew(t, "all "+count+" "+mark+" 5", "error 201 of all\n")
		}
	}
	wantNew(t, "all\nall \nall\t\t\nall %", strings.Repeat("error 201 of all\n", 4))
	wantNew(t, member+"ask m(X, [a,b]).\nall 1 9\nall 2\nall 02 9\nall 2 9 9\nused\nall 2 9", "ok\nok\nX = a\nerror 201 of all\nerror 201 of all\nerror 201 of all\n1\nX = b\nno\n")
}

// P20.1: unify and differ want two roots; what is no text at all is told as show tells it, ahead of that.
func TestOtherRoots(t *testing.T) {
	for _, command := range []string{"unify", "differ"} {
		for _, rest := range []string{"", "%", "% a, b", "X", "a", "f(a, b)", "[a, b]", "a where X = b", "a, a, a", "X, Y, Z", "X, X, X where X = a", list("a", 4096)} {
			wantNew(t, command+" "+rest, "error 201 of "+command+"\n")
		}
		for rest, told := range map[string]string{
			"f(": "error 91 at 2 by 72 at 2", "a,": "error 91 at 2 by 72 at 2", "a b": "error 91 at 2 by 71 at 2", "a, b c": "error 91 at 5 by 71 at 5", "a, 'b": "error 91 at 3 by 70 at 3 by 64 at 3", "a, b where X = a, X = a": "error 91 at 1 by 84 at 1 of X",
			"where X = a": "error 91 at 6 by 71 at 6", "a, b, c where _ = a": "error 91 at 0 by 83 at 0 of _", "a, 007": "error 91 at 3 by 70 at 3 by 63 at 3", list("a", 4097): "error 91 at 4097 by 80 at 4097",
		} {
			wantNew(t, command+" "+rest+"\nshow "+rest, told+"\n"+told+"\n")
		}
	}
	// Three roots are shown, though there is no pair of them.
	wantNew(t, "show a, b, X\nunify a, b, X\ndiffer a, b, X", "a, b, V1\nerror 201 of unify\nerror 201 of differ\n")
}

// P20.1: numbers are told in decimal, at each length.
func TestToldNumbers(t *testing.T) {
	c := open(t, mostWords)
	wantRun(t, c, "load l :- l.\nask l.", "ok\nok\n")
	used := 0
	for _, n := range []int{1, 8, 1, 89, 1, 899, 1, 8999, 1} {
		used += n
		wantRun(t, c, "next "+strconv.Itoa(n)+"\nused", "error 192 by 182\n"+strconv.Itoa(used)+"\n")
	}
	for range 10 {
		used += 10000
		wantRun(t, c, "next\nused", "error 192 by 182\n"+strconv.Itoa(used)+"\n")
	}
}
