package code_test

import (
	"runtime"
	"slices"
	"strconv"
	"strings"
	"sync"
	"testing"
	"unsafe"

	"tendril/api"
	"tendril/code"
)

// roomy is a list with spare room in which these things stand.
func roomy[T any](list []T, spare ...T) []T {
	out := make([]T, 0, len(list)+len(spare))
	return append(append(out, list...), spare...)[:len(list)]
}

// roomyExpr is a term whose lists have spare room with something in it.
func roomyExpr(e api.Expr) api.Expr {
	var args []api.Expr
	for _, x := range e.Args {
		args = append(args, roomyExpr(x))
	}
	e.Args = roomy(args, n(77), v("Spare"))
	return e
}

func roomyGoals(goals []api.Goal) []api.Goal {
	var out []api.Goal
	for _, g := range goals {
		out = append(out, api.Goal{Kind: g.Kind, A: roomyExpr(g.A), B: roomyExpr(g.B)})
	}
	return roomy(out, one(v("Spare"), v("Room")), calls(a("spare")))
}

func roomyProgram(p api.Program) api.Program {
	var clauses []api.Clause
	for _, k := range p.Clauses {
		clauses = append(clauses, api.Clause{Head: roomyExpr(k.Head), Body: roomyGoals(k.Body)})
	}
	return api.Program{Decls: roomy(p.Decls, api.Decl{Name: "spare", Arity: 2}, api.Decl{}), Clauses: roomy(clauses, clause(a("spare")), api.Clause{})}
}

func roomyCode(x api.Code) api.Code {
	var out api.Code
	for _, p := range x.Preds {
		p.Clauses = roomy(p.Clauses, 0, 77)
		out.Preds = append(out.Preds, p)
	}
	for _, r := range x.Rules {
		var nodes []api.Node
		for _, m := range r.Graph.Nodes {
			m.Args = roomy(m.Args, 0, -77)
			nodes = append(nodes, m)
		}
		r.Goals = roomy(r.Goals, api.Step{Kind: 7, Pred: 7}, api.Step{})
		r.Graph = api.Graph{Nodes: roomy(nodes, node("spare"), api.Node{}), Roots: roomy(r.Graph.Roots, 0, 99)}
		out.Rules = append(out.Rules, r)
	}
	return api.Code{Preds: roomy(out.Preds, pred("spare", 3, true, 4), api.Pred{}), Rules: roomy(out.Rules, rule(7, "7", "a", "0"), api.Rule{})}
}

// room is a list with its spare room.
func room[T any](list []T) []T { return list[:cap(list)] }

// sizes tells how long a list is, and how much room it has.
func sizes[T any](list []T) string {
	return strconv.Itoa(len(list)) + "/" + strconv.Itoa(cap(list))
}

// wholeExpr is all that a term says, and what stands in its spare room.
func wholeExpr(e api.Expr) string {
	out := strconv.Itoa(e.Kind) + strconv.Quote(e.Name) + strconv.Itoa(e.Num) + "(" + sizes(e.Args)
	for _, x := range room(e.Args) {
		out += " " + wholeExpr(x)
	}
	return out + ")"
}

func wholeGoals(goals []api.Goal) string {
	out := sizes(goals)
	for _, g := range room(goals) {
		out += " " + strconv.Itoa(g.Kind) + wholeExpr(g.A) + wholeExpr(g.B)
	}
	return out
}

func wholeProgram(p api.Program) string {
	out := sizes(p.Decls) + sizes(p.Clauses)
	for _, x := range room(p.Decls) {
		out += " " + strconv.Quote(x.Name) + strconv.Itoa(x.Arity)
	}
	for _, k := range room(p.Clauses) {
		out += " " + wholeExpr(k.Head) + wholeGoals(k.Body)
	}
	return out
}

func wholeCode(x api.Code) string {
	out := sizes(x.Preds) + sizes(x.Rules)
	numbers := func(list []int) {
		out += " " + sizes(list)
		for _, k := range room(list) {
			out += " " + strconv.Itoa(k)
		}
	}
	for _, p := range room(x.Preds) {
		out += " " + strconv.Quote(p.Name) + strconv.Itoa(p.Arity) + strconv.FormatBool(p.Co)
		numbers(p.Clauses)
	}
	for _, r := range room(x.Rules) {
		out += " of " + strconv.Itoa(r.Pred) + sizes(r.Goals) + sizes(r.Graph.Nodes)
		for _, s := range room(r.Goals) {
			out += " " + strconv.Itoa(s.Kind) + ":" + strconv.Itoa(s.Pred)
		}
		for _, m := range room(r.Graph.Nodes) {
			out += " " + strconv.Itoa(m.Kind) + strconv.Quote(m.Name) + strconv.Itoa(m.Num)
			numbers(m.Args)
		}
		numbers(r.Graph.Roots)
	}
	return out
}

// overwrite puts one thing everywhere into a list, its spare room too.
func overwrite[T any](list []T, with T) {
	for i := range room(list) {
		room(list)[i] = with
	}
}

func overwriteExpr(e api.Expr) {
	for _, x := range room(e.Args) {
		overwriteExpr(x)
	}
	overwrite(e.Args, a("over"))
}

func overwriteGoals(goals []api.Goal) {
	for _, g := range room(goals) {
		overwriteExpr(g.A)
		overwriteExpr(g.B)
	}
	overwrite(goals, calls(a("over")))
}

func overwriteProgram(p api.Program) {
	for _, k := range room(p.Clauses) {
		overwriteExpr(k.Head)
		overwriteGoals(k.Body)
	}
	overwrite(p.Decls, api.Decl{Name: "over", Arity: 5})
	overwrite(p.Clauses, clause(a("over")))
}

func overwriteRule(r api.Rule) {
	overwrite(r.Goals, api.Step{Kind: -5, Pred: -5})
	for _, m := range room(r.Graph.Nodes) {
		overwrite(m.Args, -5)
	}
	overwrite(r.Graph.Nodes, api.Node{Kind: -5, Name: "over", Num: -5, Args: []int{-5}})
	overwrite(r.Graph.Roots, -5)
}

func overwriteCode(x api.Code) {
	for _, p := range room(x.Preds) {
		overwrite(p.Clauses, -5)
	}
	for _, r := range room(x.Rules) {
		overwriteRule(r)
	}
	overwrite(x.Preds, pred("over", -5, true, -5))
	overwrite(x.Rules, api.Rule{Pred: -5})
}

// asking is all that is asked of a code: told as one text, and what the answers were.
func asking(x api.Code, goals []api.Goal) (api.Rule, []string, [][]int, string) {
	r, names, err := code.Query(x, goals)
	told := tellRule(r) + strings.Join(names, " ") + tell(err) + tell(code.Check(x))
	var lists [][]int
	for i, p := range x.Preds {
		told += code.Name(p)
		for _, k := range keys(x) {
			lists = append(lists, code.Select(x, i, k))
			told += numbersOf(lists[len(lists)-1])
		}
	}
	return r, names, lists, told
}

// answers is what these answers say now.
func answers(r api.Rule, names []string, lists [][]int) string {
	out := tellRule(r) + strings.Join(names, " ")
	for _, list := range lists {
		out += numbersOf(list)
	}
	return out
}

func numbersOf(list []int) string {
	out := ";"
	for _, k := range list {
		out += " " + strconv.Itoa(k)
	}
	return out
}

func tell(err error) string {
	if err == nil {
		return ""
	}
	return err.Error()
}

// P16.4: what is handed in is as it was, spare room included, be it taken or refused; and an answer is as it was when that is written over.
func TestHandedIn(t *testing.T) {
	taken, refused := 0, 0
	for seed := range 3000 {
		d := dice(seed)
		p := d.program()
		if d.below(3) == 0 {
			d.spoilProgram(&p)
		}
		p = roomyProgram(p)
		before := wholeProgram(p)
		x, err := code.Compile(p)
		if wholeProgram(p) != before {
			t.Fatalf("what was handed in was %s and is %s", before, wholeProgram(p))
		}
		said := tellCode(x) + tell(err)
		goals := d.goals(d.below(4), heads(p))
		overwriteProgram(p)
		if tellCode(x)+tell(err) != said {
			t.Fatalf("the code shares memory with the program: %s is %s", said, tellCode(x))
		}
		if err != nil {
			refused++
			continue
		}
		taken++
		if d.below(3) == 0 {
			d.spoilCode(&x)
		}
		if d.below(3) == 0 {
			d.spoilGoals(goals)
		}
		x, goals = roomyCode(x), roomyGoals(goals)
		before = wholeCode(x) + wholeGoals(goals)
		r, names, lists, _ := asking(x, goals)
		if wholeCode(x)+wholeGoals(goals) != before {
			t.Fatalf("what was handed in was %s and is %s", before, wholeCode(x)+wholeGoals(goals))
		}
		said = answers(r, names, lists)
		overwriteCode(x)
		overwriteGoals(goals)
		if now := answers(r, names, lists); now != said {
			t.Fatalf("an answer shares memory with what was handed in: %s is %s", said, now)
		}
	}
	if taken < 1000 || refused < 500 {
		t.Errorf("%d taken, %d refused", taken, refused)
	}
}

// P16.4: what is answered twice shares no memory: one is as it was when the other is written over, and a third is the same.
func TestAnsweredTwice(t *testing.T) {
	for seed := range 1500 {
		d := dice(seed)
		p := d.program()
		x, err := code.Compile(p)
		if err != nil {
			continue
		}
		said := tellCode(x)
		again := mustCompile(t, p)
		overwriteCode(again)
		if tellCode(x) != said || tellCode(mustCompile(t, p)) != said {
			t.Fatalf("%s is %s", said, tellCode(x))
		}
		goals := d.goals(d.below(4), heads(p))
		r, names, lists, told := asking(x, goals)
		other, names2, lists2, _ := asking(x, goals)
		overwriteRule(other)
		overwrite(names2, "Over")
		for _, list := range lists2 {
			overwrite(list, -5)
		}
		if tellCode(x) != said {
			t.Fatalf("an answer shares memory with the code: %s is %s", said, tellCode(x))
		}
		if _, _, _, third := asking(x, goals); third != told {
			t.Fatalf("%s, and behind that %s", told, third)
		}
		now := answers(r, names, lists)
		r, names, lists, _ = asking(x, goals)
		if third := answers(r, names, lists); now != third {
			t.Fatalf("two answers share memory: %s is %s", third, now)
		}
	}
}

// apart stops the test if two of some lists share memory, spare room included.
func apart[T comparable](t *testing.T, lists [][]T, mark func(i int) T) {
	t.Helper()
	for i, list := range lists {
		overwrite(list, mark(i))
	}
	for i, list := range lists {
		if slices.ContainsFunc(room(list), func(got T) bool { return got != mark(i) }) {
			t.Fatalf("two lists of one answer share memory: %v", list)
		}
	}
}

// R6: no two lists of one answer share memory, spare room included.
func TestListsOfOneAnswer(t *testing.T) {
	for seed := range 1500 {
		d := dice(seed)
		p := d.program()
		x, err := code.Compile(p)
		if err != nil {
			continue
		}
		var numbers [][]int
		var steps [][]api.Step
		var nodes [][]api.Node
		r, _, err := code.Query(x, d.goals(d.below(5), heads(p)))
		for _, r := range append(slices.Clone(x.Rules), r) {
			steps, nodes, numbers = append(steps, r.Goals), append(nodes, r.Graph.Nodes), append(numbers, r.Graph.Roots)
			for _, m := range r.Graph.Nodes {
				numbers = append(numbers, m.Args)
			}
		}
		for _, p := range x.Preds {
			numbers = append(numbers, p.Clauses)
		}
		apart(t, numbers, func(i int) int { return 1000 + i })
		apart(t, steps, func(i int) api.Step { return api.Step{Kind: 1000 + i} })
		for i, list := range nodes {
			overwrite(list, api.Node{Kind: 1000 + i})
		}
		for i, list := range nodes {
			if slices.ContainsFunc(room(list), func(m api.Node) bool { return m.Kind != 1000+i }) {
				t.Fatal("two lists of nodes share memory")
			}
		}
	}
}

// shares tells whether a text lies within another one's memory.
func shares(whole, part string) bool {
	first := uintptr(unsafe.Pointer(unsafe.StringData(whole)))
	at := uintptr(unsafe.Pointer(unsafe.StringData(part)))
	return len(part) > 0 && at >= first && at < first+uintptr(len(whole))
}

// P16.4: names are new memory, too: of predicates, nodes, variables, keys and faults.
func TestNamesAreTheirOwn(t *testing.T) {
	source := strings.Clone("decl head atom comp Var unknown Quoted")
	words := strings.Fields(source)
	if !shares(source, words[0]) || !shares(source, words[6]) {
		t.Fatal("the words were copied")
	}
	decl, head, atom, comp, name, unknown, quoted := words[0], words[1], words[2], words[3], words[4], words[5], words[6]
	p := api.Program{Decls: []api.Decl{{Name: decl}, {Name: quoted}}, Clauses: []api.Clause{clause(c(head, c(comp, v(name)), a(atom)))}}
	x := mustCompile(t, p)
	goals := []api.Goal{one(v(name), c(comp, a(atom)))}
	r, names, err := code.Query(x, goals)
	if err != nil {
		t.Fatal(err)
	}
	texts := slices.Clone(names)
	for _, p := range x.Preds {
		texts = append(texts, p.Name)
	}
	for _, g := range []api.Graph{x.Rules[0].Graph, r.Graph} {
		for _, m := range g.Nodes {
			texts = append(texts, m.Name)
		}
	}
	handed := api.Graph{Nodes: []api.Node{{Kind: kAtom, Name: atom}, {Kind: kComp, Name: comp, Args: []int{0}}}}
	texts = append(texts, code.Key(handed, 0).Name, code.Key(handed, 1).Name, code.Name(pred(decl, 0, false)), code.Name(pred(quoted, 1, true)))
	for _, e := range []api.Expr{a(unknown), c(quoted, a(atom))} {
		_, err := code.Compile(api.Program{Clauses: []api.Clause{clause(a(head), calls(e))}})
		_, _, err2 := code.Query(x, []api.Goal{calls(e)})
		for _, err := range []error{err, err2} {
			f, ok := err.(*api.Fault)
			if !ok || f.Name == "" {
				t.Fatal(err)
			}
			texts = append(texts, f.Name)
		}
	}
	if len(texts) != 1+3+3+3+4+4 {
		t.Fatalf("%q", texts)
	}
	for _, s := range texts {
		if shares(source, s) {
			t.Errorf("%q lies in what was handed in", s)
		}
	}
}

// held is how many bytes are in use when all that nobody holds any more is given back.
func held() uint64 {
	var m runtime.MemStats
	runtime.GC()
	runtime.ReadMemStats(&m)
	return m.HeapAlloc
}

// P16.4: nothing of what is handed in is kept from call to call.
func TestNothingIsKept(t *testing.T) {
	round := func(i int) {
		p := api.Program{Decls: declared("d"+strconv.Itoa(i)+"x", 60), Clauses: defined("h"+strconv.Itoa(i)+"x", 60)}
		p.Clauses[0].Body = []api.Goal{one(within(2000+i, v("X"+strconv.Itoa(i))), a("a"))}
		x := mustCompile(t, p)
		if _, _, err := code.Query(x, p.Clauses[0].Body); err != nil || code.Check(x) != nil || len(code.Select(x, 60, api.Key{})) != 1 {
			t.Fatal(err)
		}
	}
	round(0)
	before := held()
	for i := range 40 {
		round(i)
	}
	if after := held(); after > before+1<<20 {
		t.Errorf("%d bytes are held", after-before)
	}
}

// R9: what is answered hangs on the arguments alone, whoever else asks at the same time of the same things.
func TestAtTheSameTime(t *testing.T) {
	var wait sync.WaitGroup
	for seed := range 100 {
		d := dice(seed)
		p := d.program()
		want, fault := compiled(p)
		goals := d.goals(3, heads(p))
		_, _, _, told := asking(want, goals)
		for range 8 {
			wait.Go(func() {
				x, err := code.Compile(p)
				if !sameFault(err, fault) || tellCode(x) != tellCode(want) {
					t.Error(tellCode(x), err)
				}
				if _, _, _, again := asking(want, goals); again != told {
					t.Error(again)
				}
			})
		}
	}
	wait.Wait()
}
