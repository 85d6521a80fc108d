package machine_test

import (
	"errors"
	"slices"
	"strconv"
	"strings"
	"sync"
	"testing"
	"unsafe"

	"tendril/api"
	"tendril/machine"
)

// roomy is a list with spare room in which these things stand.
func roomy[T any](list []T, spare ...T) []T {
	out := make([]T, 0, len(list)+len(spare))
	return append(append(out, list...), spare...)[:len(list)]
}

// room is a list with its spare room.
func room[T any](list []T) []T { return list[:cap(list)] }

// roomyRule is a rule of its own whose lists have spare room with something in it.
func roomyRule(r api.Rule) api.Rule {
	var nodes []api.Node
	for _, m := range r.Graph.Nodes {
		m.Args = roomy(m.Args, 0, -77)
		m.Name = strings.Clone(m.Name)
		nodes = append(nodes, m)
	}
	r.Goals = roomy(r.Goals, api.Step{Kind: call}, api.Step{Kind: 7, Pred: 7})
	r.Graph = api.Graph{Nodes: roomy(nodes, api.Node{Kind: kAtom, Name: "spare"}, api.Node{}), Roots: roomy(r.Graph.Roots, 0, 99)}
	return r
}

// roomyCode is a code of its own whose lists have spare room with something in it.
func roomyCode(x api.Code) api.Code {
	var out api.Code
	for _, p := range x.Preds {
		p.Clauses = roomy(p.Clauses, 0, 77)
		out.Preds = append(out.Preds, p)
	}
	for _, r := range x.Rules {
		out.Rules = append(out.Rules, roomyRule(r))
	}
	spare := api.Rule{Pred: 0, Graph: api.Graph{Nodes: []api.Node{{Kind: kVar}}, Roots: []int{0}}}
	return api.Code{Preds: roomy(out.Preds, api.Pred{Name: "spare", Co: true}, api.Pred{}), Rules: roomy(out.Rules, spare, api.Rule{Pred: 7})}
}

func roomyNames(list []string) []string { return roomy(list, "Spare", "_") }

// all tells things of any kind as one text.
type all struct{ strings.Builder }

func (a *all) texts(list ...string) {
	for _, s := range list {
		a.WriteString(" " + strconv.Quote(s))
	}
}

func (a *all) numbers(list []int) {
	a.WriteString(" " + strconv.Itoa(len(list)) + "/" + strconv.Itoa(cap(list)))
	for _, n := range room(list) {
		a.WriteString(" " + strconv.Itoa(n))
	}
}

func (a *all) rule(r api.Rule) {
	a.numbers([]int{r.Pred, len(r.Goals), cap(r.Goals), len(r.Graph.Nodes), cap(r.Graph.Nodes)})
	for _, s := range room(r.Goals) {
		a.numbers([]int{s.Kind, s.Pred})
	}
	for _, m := range room(r.Graph.Nodes) {
		a.texts(m.Name)
		a.numbers([]int{m.Kind, m.Num})
		a.numbers(m.Args)
	}
	a.numbers(r.Graph.Roots)
}

// wholeCode is all that a code says, and what stands in its spare room.
func wholeCode(x api.Code) string {
	var a all
	a.numbers([]int{len(x.Preds), cap(x.Preds), len(x.Rules), cap(x.Rules)})
	for _, p := range room(x.Preds) {
		a.texts(p.Name, strconv.FormatBool(p.Co))
		a.numbers([]int{p.Arity})
		a.numbers(p.Clauses)
	}
	for _, r := range room(x.Rules) {
		a.rule(r)
	}
	return a.String()
}

// wholeQuery is all that a rule and names say, and what stands in their spare room.
func wholeQuery(r api.Rule, names []string) string {
	var a all
	a.rule(r)
	a.numbers([]int{len(names), cap(names)})
	a.texts(room(names)...)
	return a.String()
}

// overwrite puts one thing everywhere into a list, its spare room too.
func overwrite[T any](list []T, with T) {
	for i := range room(list) {
		room(list)[i] = with
	}
}

func overwriteGraph(g api.Graph) {
	for _, m := range room(g.Nodes) {
		overwrite(m.Args, -5)
	}
	overwrite(g.Nodes, api.Node{Kind: -5, Name: "over", Num: -5, Args: []int{-5}})
	overwrite(g.Roots, -5)
}

func overwriteRule(r api.Rule) {
	overwrite(r.Goals, api.Step{Kind: -5, Pred: -5})
	overwriteGraph(r.Graph)
}

func overwriteCode(x api.Code) {
	for _, p := range room(x.Preds) {
		overwrite(p.Clauses, -5)
	}
	for _, r := range room(x.Rules) {
		overwriteRule(r)
	}
	overwrite(x.Preds, api.Pred{Name: "over", Arity: -5, Co: true, Clauses: []int{-5}})
	overwrite(x.Rules, api.Rule{Pred: -5})
}

func overwriteAnswer(a api.Answer) {
	overwriteGraph(a.Graph)
	overwrite(a.Vars, "over")
	overwrite(a.Proofs, api.Proof{Kind: -5, Pred: -5, Parent: -5, Place: -5, Rule: -5, Hyp: -5, First: -5, Count: -5})
}

func overwriteDump(d api.Dump) {
	for _, mark := range room(d.Marks) {
		overwrite(mark.Difs, [2]int{-5, -5})
	}
	overwrite(d.Words, 7)
	overwrite(d.Trail, api.Saved{At: -5, Old: 7})
	overwrite(d.Marks, api.Mark{Trail: -5, Top: -5, Difs: [][2]int{{-5, -5}}})
	overwrite(d.Names, "over")
	overwrite(d.Difs, [2]int{-5, -5})
}

// overwriteFault puts something else into a fault and its causes.
func overwriteFault(err error) {
	var f *api.Fault
	if errors.As(err, &f) {
		overwriteFault(f.Cause)
		*f = api.Fault{Code: 7, At: 7, Name: "over"}
	}
}

// handed plays a script on a machine that was made from lists with spare room, which are written over as soon as they were handed in.
func handed(t *testing.T, s *script, size int) (*player, bool) {
	t.Helper()
	x := roomyCode(s.code)
	before := wholeCode(x)
	p := &player{script: s, t: t, m: made(t, x, size), size: size}
	if wholeCode(x) != before {
		t.Fatalf("the code was %s and is %s", before, wholeCode(x))
	}
	overwriteCode(x)
	return p, p.hand()
}

// hand asks the query with lists that have spare room, and tells whether there was room for it.
func (p *player) hand() bool {
	p.t.Helper()
	r, names := roomyRule(p.rule), roomyNames(p.vars)
	before := wholeQuery(r, names)
	err := p.m.Ask(r, names)
	if wholeQuery(r, names) != before {
		p.fail("the query was ", before, " and is ", wholeQuery(r, names))
	}
	overwriteRule(r)
	overwrite(names, "Over")
	p.done, p.came = 0, 0
	overwriteFault(err)
	return err == nil
}

// P18.6: what is handed in is as it was, spare room included, and isn't kept.
func TestHandedIn(t *testing.T) {
	for seed := range 1500 {
		s, d := scattered(seed+400000, 15)
		p, ok := handed(t, s, s.ample())
		if !ok {
			t.Fatal("no room")
		}
		p.goOn(d.budgets(), nothing)
		if !p.hand() {
			t.Fatal("no room")
		}
		p.goOn(d.budgets(), (*player).compact)
	}
}

// P18.6: what is refused is as it was, too.
func TestHandedInAndRefused(t *testing.T) {
	for seed := range 500 {
		s, d := scattered(seed+500000, 1)
		x := roomyCode(s.code)
		switch d.below(4) {
		case 0:
			x.Rules[0].Pred = -1
		case 1:
			x.Preds[d.below(len(x.Preds))].Arity = 9
		case 2:
			x.Preds[0].Clauses = append(x.Preds[0].Clauses, 3)
		}
		size := d.below(3)
		before := wholeCode(x)
		m, err := machine.New(x, size)
		if wholeCode(x) != before {
			t.Fatalf("the code was %s and is %s", before, wholeCode(x))
		}
		if err != nil {
			continue
		}
		for range 3 {
			r, names := roomyRule(s.rule), roomyNames(s.vars)
			switch d.below(4) {
			case 0:
				r.Pred = d.below(3)
			case 1:
				r.Graph.Roots = append(r.Graph.Roots, 0)
			case 2:
				names = append(names, "X")
			}
			before := wholeQuery(r, names)
			err := m.Ask(r, names)
			if wholeQuery(r, names) != before {
				t.Fatalf("the query was %s and is %s, %v", before, wholeQuery(r, names), err)
			}
		}
	}
}

// P18.6, R6: all that a machine answers is new memory: when it is written over, spare room included, what was answered ahead and what is answered behind it is as it would have been.
func TestAnswersAreNew(t *testing.T) {
	for seed := range 1500 {
		s, d := scattered(seed+600000, 15)
		size := s.ample()
		if d.below(2) == 0 {
			size = 1 + d.below(min(size, 100))
		}
		p := s.player(t, size)
		if p == nil {
			continue
		}
		p.goOn(d.budgets(), func(p *player) {
			a, err := p.m.Answer()
			roots, dump := p.m.Roots(), p.m.Dump()
			told, state := tellingAnswer(a), p.state()
			again, no := p.m.Answer()
			overwriteAnswer(again)
			overwrite(p.m.Roots(), -5)
			overwriteDump(p.m.Dump())
			overwriteFault(no)
			if tellingAnswer(a) != told || p.state() != state || (laidOpen{dump}).text(roots, len(p.vars)) != state || isFault(err, 7, 7) {
				t.Fatal("what is answered twice shares memory")
			}
			again, _ = p.m.Answer()
			if tellingAnswer(again) != told {
				t.Fatal("what is answered is kept")
			}
			overwriteAnswer(a)
			overwrite(roots, -5)
			overwriteDump(dump)
			overwriteFault(err)
		})
	}
}

// region is a piece of memory.
type region struct {
	what       string
	begin, end uintptr
}

// regionOf is the memory of a list with its spare room.
func regionOf[T any](what string, list []T) region {
	var one T
	begin := uintptr(unsafe.Pointer(unsafe.SliceData(list)))
	return region{what, begin, begin + uintptr(cap(list))*unsafe.Sizeof(one)}
}

// regions is the memory of each list of an answer.
func regions(a api.Answer) []region {
	out := []region{regionOf("roots", a.Graph.Roots), regionOf("nodes", a.Graph.Nodes), regionOf("vars", a.Vars), regionOf("proofs", a.Proofs)}
	for i, m := range a.Graph.Nodes {
		out = append(out, regionOf("arguments of "+strconv.Itoa(i), m.Args))
	}
	return out
}

// R6: the lists of one answer, and those of several, share no memory with one another.
func TestListsAreApart(t *testing.T) {
	m := asked(t, 5000, whole, "member(X, [f(Y,Z),g(Y,f(Y,a)),Z]), dif(X, Y).")
	var taken []region
	for range 3 {
		if ok, err := m.Next(100); !ok || err != nil {
			t.Fatal(ok, err)
		}
		for range 3 {
			taken = append(taken, regions(answer(t, m))...)
			taken = append(taken, regionOf("cells", m.Roots()))
		}
	}
	taken = slices.DeleteFunc(taken, func(r region) bool { return r.begin == r.end })
	slices.SortFunc(taken, func(a, b region) int { return int(a.begin) - int(b.begin) })
	for i := range len(taken) - 1 {
		if taken[i].end > taken[i+1].begin {
			t.Errorf("%s and %s share memory", taken[i].what, taken[i+1].what)
		}
	}
	if len(taken) < 50 {
		t.Error(len(taken))
	}
}

// R6: of texts, too, the memory is new.
func TestNewTexts(t *testing.T) {
	x := compiled("p(an_atom_of_a_clause, Y).")
	r, names := query(x, "p(Variable, an_atom_of_a_query).")
	m := made(t, x, 100)
	if err := m.Ask(r, names); err != nil {
		t.Fatal(err)
	}
	wantNext(t, m, 1, true, 1)
	taken := []*byte{unsafe.StringData(names[0])}
	for _, g := range []api.Graph{x.Rules[0].Graph, r.Graph} {
		for _, m := range g.Nodes {
			if m.Name != "" {
				taken = append(taken, unsafe.StringData(m.Name))
			}
		}
	}
	for range 3 {
		a := answer(t, m)
		texts := slices.Clone(a.Vars)
		for _, m := range a.Graph.Nodes {
			texts = append(texts, m.Name)
		}
		texts = append(texts, m.Dump().Names...)
		if len(texts) != 5 {
			t.Fatal(texts)
		}
		for _, s := range texts {
			if slices.Contains(taken, unsafe.StringData(s)) {
				t.Errorf("%s is told in memory that is handed in, or was answered ahead", s)
			}
			taken = append(taken, unsafe.StringData(s))
		}
	}
	// A fault's name.
	full := compiled("p(" + atoms(0, 1022) + ").")
	m = made(t, full, 100)
	r, names = query(full, "X = one_name_too_many.")
	taken = []*byte{unsafe.StringData(r.Graph.Nodes[1].Name)}
	for range 3 {
		err := m.Ask(r, names)
		if !isNoRoomForAName(err, "one_name_too_many") {
			t.Fatal(err)
		}
		at := unsafe.StringData(err.(*api.Fault).Cause.(*api.Fault).Name)
		if slices.Contains(taken, at) {
			t.Error("the name is told in memory that is handed in, or was answered ahead")
		}
		taken = append(taken, at)
	}
}

// R9: what is answered hangs on the machine alone, whoever else has one at the same time.
func TestAtTheSameTime(t *testing.T) {
	once := func(seed int) string {
		s, d := scattered(seed+700000, 12)
		m, err := machine.New(s.code, 200)
		if err != nil {
			return err.Error()
		}
		out := ""
		if err := m.Ask(s.rule, s.vars); err != nil {
			return err.Error()
		}
		for range 10 {
			ok, err := m.Next(d.below(5))
			a, no := m.Answer()
			out += strconv.FormatBool(ok) + tellingAnswer(a) + strconv.Itoa(m.Used())
			for _, err := range []error{err, no} {
				if err != nil {
					out += err.Error()
				}
			}
			if d.below(3) == 0 {
				n, _ := m.Compact()
				out += strconv.Itoa(n)
			}
		}
		return out
	}
	want := make([]string, 100)
	for seed := range want {
		want[seed] = once(seed)
	}
	var wait sync.WaitGroup
	for range 8 {
		wait.Go(func() {
			for seed := range want {
				if got := once(seed); got != want[seed] {
					t.Errorf("seed %d: %s, want %s", seed, got, want[seed])
				}
			}
		})
	}
	wait.Wait()
}
