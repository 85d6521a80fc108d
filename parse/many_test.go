package parse_test

import (
	"runtime"
	"slices"
	"strconv"
	"strings"
	"sync"
	"testing"
	"unsafe"

	"tendril/api"
	"tendril/parse"
)

// P7.1: scattered sources, with blanks and remarks between their tokens, mean what they were made of.
func TestManySources(t *testing.T) {
	for _, f := range faces {
		size := 0
		for seed := range 8000 {
			d := dice(seed)
			answer, tokens := d.source(f)
			s, _ := d.lay(tokens)
			wantAnswer(t, f, s, answer)
			size += len(tokens)
		}
		if size < 8000*10 {
			t.Errorf("%s: %d tokens in all", f.word, size)
		}
	}
}

// spoil changes a token or some of them, at scattered places.
func (d *dice) spoil(tokens []string) []string {
	out := slices.Clone(tokens)
	at := d.below(len(out) + 1)
	some := []string{d.one("(", ")", "[", "]", ",", "|", "=", ".", "/", ":-", "a", "where", "co", "dif", "X", "1", "9", "-1", "'q'")}
	switch d.below(7) {
	case 0:
		return out[:at]
	case 1:
		return slices.Insert(out, at, strings.Fields("f ( 1 , 2 , 3 , 4 , 5 , 6 , 7 , 8 , X )")...)
	case 2:
		return slices.Insert(out, at, strings.Fields("co p / 9 .")...)
	case 3:
		if at < len(out) {
			return slices.Delete(out, at, at+1)
		}
	case 4:
		if at < len(out) {
			out[at] = some[0]
			return out
		}
	case 5:
		return append(out[at:], out[:at]...)
	}
	return slices.Insert(out, at, some...)
}

// P7.1: scattered sources that were spoilt are refused at the first token that is at fault, as the grammar has it.
func TestSpoiltSources(t *testing.T) {
	for _, f := range faces {
		codes := map[int]int{}
		for seed := range 6000 {
			d := dice(seed)
			_, tokens := d.source(f)
			for range 1 + d.below(2) {
				tokens = d.spoil(tokens)
			}
			s, places := d.lay(tokens)
			code, i := verdict(f.word, tokens)
			codes[code]++
			if code != 0 {
				wantFault(t, f, s, code, places[i])
			} else if _, err := f.read(s); err != nil {
				t.Fatalf("%s %s: %v", f.word, short(s), err)
			}
		}
		for _, code := range []int{0, errSyntax, errEnd, errArity} {
			if codes[code] < 100 {
				t.Errorf("%s: %d sources have the code %d", f.word, codes[code], code)
			}
		}
	}
}

// P7.1: any bytes are a source; there is an answer or a fault, never both.
func TestAnyBytes(t *testing.T) {
	const bytes = "abX_09-'\\%:-()[],|=./ \n.,(,)!\x00\xff"
	for seed := range 30000 {
		d := dice(seed)
		s := make([]byte, d.below(12))
		for i := range s {
			s[i] = bytes[d.below(len(bytes))]
		}
		for _, f := range faces {
			got, err := f.read(string(s))
			fault, ok := err.(*api.Fault)
			if err != nil && (!ok || fault == nil || fault.At < 0 || fault.At > len(s) || tell(got) != tell(f.none)) {
				t.Fatalf("%s %q: %s, %v", f.word, s, tell(got), err)
			}
		}
	}
}

// P7.1: sources of many terms, equations, clauses, declarations and goals: their number has no limit here.
func TestLongSources(t *testing.T) {
	const count = 1 << 17
	x, err := parse.Terms(strings.Repeat("a,", longest/2-1) + "b")
	if err != nil || len(x.Roots) != longest/2 || telling(x.Roots[0]) != telling(a("a")) || telling(x.Roots[longest/2-1]) != telling(a("b")) {
		t.Error(len(x.Roots), err)
	}
	x, err = parse.Terms("a where " + strings.Repeat("X=1,", count) + "Y=2")
	if err != nil || len(x.Eqs) != count+1 || x.Eqs[0].Name != "X" || x.Eqs[count].Name != "Y" {
		t.Error(len(x.Eqs), err)
	}
	p, err := parse.Program(strings.Repeat("a.", count))
	if err != nil || len(p.Clauses) != count || len(p.Decls) != 0 {
		t.Error(len(p.Clauses), err)
	}
	p, err = parse.Program(strings.Repeat("co p/1.\n", count))
	if err != nil || len(p.Decls) != count || p.Decls[count-1] != (api.Decl{Name: "p", Arity: 1}) {
		t.Error(len(p.Decls), err)
	}
	p, err = parse.Program("a:-" + strings.Repeat("dif(X,1),", count) + "b.")
	if err != nil || len(p.Clauses) != 1 || len(p.Clauses[0].Body) != count+1 || p.Clauses[0].Body[count-1].Kind != dif {
		t.Error(len(p.Clauses), err)
	}
	q, err := parse.Query(strings.Repeat("X=Y,", count) + "p.")
	if err != nil || len(q) != count+1 || q[count-1].Kind != eq || q[count].Kind != call {
		t.Error(len(q), err)
	}
	wantFault(t, queryFace, strings.Repeat("dif(", count), errNest, 4*deepest+4)
	wantFault(t, termsFace, strings.Repeat("a,", count), errEnd, 2*count)
	wantFault(t, progFace, strings.Repeat("a.", longest/2-1)+")", errSyntax, longest-2)
}

// P7.3: two programs one behind the other, with a blank or a line's end between, have the items of both.
func TestTwoPrograms(t *testing.T) {
	sources := []string{"", "p.", "co p/1.", "co.", "co:-co.", "co(a).", "p:-q.", "co co/0.", "where.", "% a remark\n", "p. %\n", "p:-X=[a|X],dif(X,1)."}
	for seed := range 200 {
		d := dice(seed)
		_, tokens := d.program()
		s, _ := d.lay(tokens)
		sources = append(sources, s)
	}
	for i, s := range sources {
		one, err := parse.Program(s)
		if err != nil {
			t.Fatal(s, err)
		}
		for j := range sources[:30] {
			r := sources[(i*j+j)%len(sources)]
			two, err := parse.Program(r)
			if err != nil {
				t.Fatal(r, err)
			}
			both := api.Program{Decls: slices.Concat(one.Decls, two.Decls), Clauses: slices.Concat(one.Clauses, two.Clauses)}
			for _, blank := range []string{" ", "\n", "\t", "\r"} {
				wantAnswer(t, progFace, s+blank+r, both)
			}
		}
	}
	// Items stand in their order, whoever stands between them.
	wantAnswer(t, progFace, "a. co b/1. c. co d/2. e.", api.Program{
		Decls:   []api.Decl{{Name: "b", Arity: 1}, {Name: "d", Arity: 2}},
		Clauses: []api.Clause{clause(a("a")), clause(a("c")), clause(a("e"))},
	})
}

// rooms is the addresses of all elements of a list, spare room included.
func rooms[T any](list []T, out map[any]int) {
	for i := range list[:cap(list)] {
		out[&list[:cap(list)][i]]++
	}
}

func exprRooms(e api.Expr, out map[any]int) {
	rooms(e.Args, out)
	for _, x := range e.Args {
		exprRooms(x, out)
	}
}

func goalRooms(goals []api.Goal, out map[any]int) {
	rooms(goals, out)
	for _, g := range goals {
		exprRooms(g.A, out)
		exprRooms(g.B, out)
	}
}

// allRooms is the addresses of all elements of all lists of an answer.
func allRooms(answer any, out map[any]int) {
	switch x := answer.(type) {
	case api.Terms:
		rooms(x.Roots, out)
		rooms(x.Eqs, out)
		for _, e := range x.Roots {
			exprRooms(e, out)
		}
		for _, e := range x.Eqs {
			exprRooms(e.Right, out)
		}
	case api.Program:
		rooms(x.Decls, out)
		rooms(x.Clauses, out)
		for _, one := range x.Clauses {
			exprRooms(one.Head, out)
			goalRooms(one.Body, out)
		}
	case []api.Goal:
		goalRooms(x, out)
	}
}

// P7.4: no two lists of one answer, and none of two answers, share memory, spare room included.
func TestListsAreTheirOwn(t *testing.T) {
	for _, f := range faces {
		lists := 0
		for seed := range 600 {
			d := dice(seed)
			answer, tokens := d.source(f)
			s, _ := d.lay(tokens)
			seen := map[any]int{}
			for range 3 {
				got, err := f.read(s)
				if err != nil {
					t.Fatal(err)
				}
				allRooms(got, seen)
				wantAnswer(t, f, s, answer)
			}
			for _, times := range seen {
				if times != 1 {
					t.Fatalf("%s %s: a place stands in %d lists", f.word, short(s), times)
				}
			}
			lists += len(seen)
		}
		if lists < 6000 {
			t.Errorf("%s: %d places", f.word, lists)
		}
	}
}

// shares tells whether a text lies within another one's memory.
func shares(whole, part string) bool {
	first := uintptr(unsafe.Pointer(unsafe.StringData(whole)))
	at := uintptr(unsafe.Pointer(unsafe.StringData(part)))
	return len(part) > 0 && at >= first && at < first+uintptr(len(whole))
}

func exprNames(e api.Expr) []string {
	out := []string{e.Name}
	for _, x := range e.Args {
		out = append(out, exprNames(x)...)
	}
	return out
}

// P7.4: names are new memory, too: an answer doesn't hold its source.
func TestNamesAreTheirOwn(t *testing.T) {
	source := strings.Clone("Xx, ff(Yy, ab, 'q1', [el|Tail]) where Xx = gg(Zz), Vv = hh")
	x, err := parse.Terms(source)
	if err != nil {
		t.Fatal(err)
	}
	var words []string
	for _, e := range x.Roots {
		words = append(words, exprNames(e)...)
	}
	for _, e := range x.Eqs {
		words = append(append(words, e.Name), exprNames(e.Right)...)
	}
	source2 := strings.Clone("co pp/1. hh(Xx) :- kk(Yy), dif(Xx, aa), Zz = ll.")
	p, err := parse.Program(source2)
	if err != nil {
		t.Fatal(err)
	}
	words = append(words, p.Decls[0].Name)
	words = append(words, exprNames(p.Clauses[0].Head)...)
	for _, g := range p.Clauses[0].Body {
		words = append(append(words, exprNames(g.A)...), exprNames(g.B)...)
	}
	if len(words) < 20 {
		t.Error(words)
	}
	for _, w := range words {
		if shares(source, w) || shares(source2, w) {
			t.Errorf("%q lies in its source", w)
		}
	}
}

// held is how many bytes are in use when all that nobody holds any more is given back.
func held() uint64 {
	var m runtime.MemStats
	runtime.GC()
	runtime.ReadMemStats(&m)
	return m.HeapAlloc
}

// P7.4: small answers hold neither long sources nor what they were read by.
func TestSmallAnswers(t *testing.T) {
	before := held()
	var out []any
	for i := range 6 {
		blanks := strings.Repeat(" ", 1<<21)
		for _, f := range faces {
			got, err := f.read(blanks + map[string]string{"terms": "name", "program": "head.", "query": "goal."}[f.word])
			if err != nil {
				t.Fatal(i, err)
			}
			out = append(out, got)
		}
	}
	if after := held(); after > before+1<<21 {
		t.Errorf("%d bytes are held for small answers", after-before)
	}
	// The answers are asked behind it, so that they are alive while the bytes are counted.
	if len(out) != 18 || tell(out[0]) != tell(api.Terms{Roots: []api.Expr{a("name")}}) {
		t.Error("other answers")
	}
}

// P7.4: what is answered hangs on the source alone: not on what was read before, nor on what was done to it, nor on others who read at the same time.
func TestSourceAlone(t *testing.T) {
	sources := map[string]face{"f(X,[a|Y]),b where X=g(X)": termsFace, "f(": termsFace, "a 'b": termsFace, "co p/1. p(X):-dif(X,a),q. q.": progFace, "co p/9.": progFace, "p(X),X=[1].": queryFace, "X.": queryFace}
	tells := func(s string) string {
		got, err := sources[s].read(s)
		if err != nil {
			return err.Error()
		}
		return tell(got)
	}
	first := map[string]string{}
	for s := range sources {
		first[s] = tells(s)
	}
	var all sync.WaitGroup
	for i := range 8 {
		all.Go(func() {
			for j := range 300 {
				for s := range sources {
					if got := tells(s); got != first[s] {
						t.Errorf("%d, %d: %s: %s, want %s", i, j, s, got, first[s])
					}
				}
			}
		})
	}
	all.Wait()
}

// P7.4: answers and faults may be written over.
func TestWrittenOver(t *testing.T) {
	x, _ := parse.Terms("f(a,b),X where X=g(c)")
	want := tell(x)
	for i := range x.Roots {
		for j := range x.Roots[i].Args {
			x.Roots[i].Args[j] = v("Zz")
		}
		x.Roots[i] = n(9)
	}
	x.Eqs[0].Right.Args[0] = n(9)
	x.Eqs[0] = api.Eq{}
	if again, err := parse.Terms("f(a,b),X where X=g(c)"); err != nil || tell(again) != want {
		t.Error(again, err)
	}
	for _, s := range []string{"f(", "f)", "a 'b", strconv.Itoa(great) + "0"} {
		_, err := parse.Terms(s)
		told := err.Error()
		fault := err.(*api.Fault)
		if fault.Cause != nil {
			*fault.Cause.(*api.Fault) = api.Fault{}
		}
		*fault = api.Fault{}
		if _, err := parse.Terms(s); err == nil || err.Error() != told {
			t.Error(s, err, told)
		}
	}
}
