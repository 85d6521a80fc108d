package strata_test

import (
	"errors"
	"slices"
	"strconv"
	"strings"
	"testing"
	"unsafe"

	"tendril/api"
	"tendril/strata"
)

// roomy is a list with spare room in which these things stand.
func roomy[T any](list []T, spare ...T) []T {
	out := make([]T, 0, len(list)+len(spare))
	return append(append(out, list...), spare...)[:len(list)]
}

// room is a list with its spare room.
func room[T any](list []T) []T { return list[:cap(list)] }

// roomyCode is a code whose lists have spare room with something in it.
func roomyCode(x api.Code) api.Code {
	var out api.Code
	for _, p := range x.Preds {
		p.Clauses = roomy(p.Clauses, 0, 77)
		out.Preds = append(out.Preds, p)
	}
	for _, r := range x.Rules {
		var nodes []api.Node
		for _, m := range r.Graph.Nodes {
			m.Args = roomy(m.Args, 0, -77)
			nodes = append(nodes, m)
		}
		r.Goals = roomy(r.Goals, api.Step{Kind: call}, api.Step{Kind: 7, Pred: 7})
		r.Graph = api.Graph{Nodes: roomy(nodes, api.Node{Kind: kAtom, Name: "spare"}, api.Node{}), Roots: roomy(r.Graph.Roots, 0, 99)}
		out.Rules = append(out.Rules, r)
	}
	rule := api.Rule{Pred: 0, Goals: calls(0, 1, 2)}
	return api.Code{Preds: roomy(out.Preds, api.Pred{Name: "spare", Co: true}, api.Pred{}), Rules: roomy(out.Rules, rule, api.Rule{Pred: 7})}
}

// whole is all that a code says, and what stands in its spare room.
func whole(x api.Code) string {
	var out strings.Builder
	say := func(texts ...string) { out.WriteString(" " + strings.Join(texts, " ")) }
	numbers := func(list []int) {
		say(strconv.Itoa(len(list)), strconv.Itoa(cap(list)))
		for _, k := range room(list) {
			say(strconv.Itoa(k))
		}
	}
	numbers([]int{len(x.Preds), cap(x.Preds), len(x.Rules), cap(x.Rules)})
	for _, p := range room(x.Preds) {
		say(strconv.Quote(p.Name), strconv.Itoa(p.Arity), strconv.FormatBool(p.Co))
		numbers(p.Clauses)
	}
	for _, r := range room(x.Rules) {
		numbers([]int{r.Pred, len(r.Goals), cap(r.Goals), len(r.Graph.Nodes), cap(r.Graph.Nodes)})
		for _, s := range room(r.Goals) {
			say(strconv.Itoa(s.Kind), strconv.Itoa(s.Pred))
		}
		for _, m := range room(r.Graph.Nodes) {
			say(strconv.Itoa(m.Kind), strconv.Quote(m.Name), strconv.Itoa(m.Num))
			numbers(m.Args)
		}
		numbers(r.Graph.Roots)
	}
	return out.String()
}

// overwrite puts one thing everywhere into a list, its spare room too.
func overwrite[T any](list []T, with T) {
	for i := range room(list) {
		room(list)[i] = with
	}
}

func overwriteCode(x api.Code) {
	for _, p := range room(x.Preds) {
		overwrite(p.Clauses, -5)
	}
	for _, r := range room(x.Rules) {
		overwrite(r.Goals, api.Step{Kind: -5, Pred: -5})
		for _, m := range room(r.Graph.Nodes) {
			overwrite(m.Args, -5)
		}
		overwrite(r.Graph.Nodes, api.Node{Kind: -5, Name: "over", Num: -5, Args: []int{-5}})
		overwrite(r.Graph.Roots, -5)
	}
	overwrite(x.Preds, api.Pred{Name: "over", Arity: -5, Co: true, Clauses: []int{-5}})
	overwrite(x.Rules, api.Rule{Pred: -5})
}

// answer is all that is answered of a code.
type answer struct {
	circles, levels []int
	errs            [3]error
}

func ask(x api.Code) answer {
	var out answer
	out.circles, out.errs[0] = strata.Circles(x)
	out.levels, out.errs[1] = strata.Levels(x)
	out.errs[2] = strata.Check(x)
	return out
}

// text is what an answer says now.
func (a answer) text() string {
	out := ""
	for _, list := range [][]int{a.circles, a.levels} {
		for _, k := range list {
			out += " " + strconv.Itoa(k)
		}
		out += ";"
	}
	for _, err := range a.errs {
		var f *api.Fault
		if errors.As(err, &f) {
			out += f.Error()
		}
		out += ";"
	}
	return out
}

// overwrite puts something else into all that an answer holds.
func (a answer) overwrite() {
	overwrite(a.circles, -7)
	overwrite(a.levels, -8)
	for _, err := range a.errs {
		var f *api.Fault
		if errors.As(err, &f) {
			*f = api.Fault{Code: 7, At: 7, Name: "over"}
		}
	}
}

// scattered is a code, good or spoilt, stratified or not, with spare room.
func scattered(seed int) api.Code {
	d := dice(seed)
	n := d.net(1 + d.below(9))
	x := d.code(n)
	d.mark(x.Preds, n.circles())
	if d.below(3) == 0 {
		d.spoil(&x)
	}
	return roomyCode(x)
}

// P17.3: what is handed in is as it was, spare room included; and an answer is as it was when that is written over.
func TestHandedIn(t *testing.T) {
	taken, refused, mixed := 0, 0, 0
	for seed := range 5000 {
		x := scattered(seed)
		before := whole(x)
		a := ask(x)
		if now := whole(x); now != before {
			t.Fatalf("what was handed in was %s and is %s", before, now)
		}
		said := a.text()
		overwriteCode(x)
		if now := a.text(); now != said {
			t.Fatalf("an answer shares memory with what was handed in: %s is %s", said, now)
		}
		switch {
		case a.errs[0] != nil:
			refused++
		case a.errs[2] != nil:
			mixed++
		default:
			taken++
		}
	}
	if taken < 1000 || refused < 500 || mixed < 1000 {
		t.Errorf("%d taken, %d refused, %d not stratified", taken, refused, mixed)
	}
}

// P17.3: spare room is no part of what is handed in.
func TestSpareRoom(t *testing.T) {
	for seed := range 2000 {
		x := scattered(seed)
		y := api.Code{Preds: slices.Clip(slices.Clone(x.Preds)), Rules: slices.Clip(slices.Clone(x.Rules))}
		for i := range y.Rules {
			y.Rules[i].Goals = slices.Clip(y.Rules[i].Goals)
		}
		if a, b := ask(x).text(), ask(y).text(); a != b {
			t.Fatalf("%s, and without spare room %s", a, b)
		}
	}
}

// P17.3, R6: what is answered twice shares no memory, spare room and faults included: one is as it was when the others are written over.
func TestAnsweredTwice(t *testing.T) {
	for seed := range 3000 {
		x := scattered(seed)
		a := ask(x)
		said := a.text()
		b := ask(x)
		if b.text() != said {
			t.Fatalf("%s, and then %s", said, b.text())
		}
		b.overwrite()
		if a.text() != said {
			t.Fatalf("two answers share memory: %s is %s", said, a.text())
		}
		if now := ask(x).text(); now != said {
			t.Fatalf("an answer is kept: %s is %s", said, now)
		}
	}
}

// R6: the two lists share no memory with one another.
func TestTwoLists(t *testing.T) {
	for seed := range 1000 {
		a := ask(scattered(seed))
		said := slices.Clone(room(a.levels))
		overwrite(a.circles, -7)
		if !slices.Equal(room(a.levels), said) {
			t.Fatalf("%v is %v", said, a.levels)
		}
	}
}

// R6: of names, too, the memory is new.
func TestNewNames(t *testing.T) {
	for _, name := range []string{"p", "it's", "long_name_of_a_predicate"} {
		x := api.Code{Preds: []api.Pred{{Name: name, Co: true}, {Name: "q"}}}
		addRule(&x, 0, calls(1))
		addRule(&x, 1, calls(0))
		texts := []*byte{unsafe.StringData(name)}
		for range 3 {
			var f *api.Fault
			if !errors.As(strata.Check(x), &f) {
				t.Fatal(name)
			}
			at := unsafe.StringData(f.Name)
			if slices.Contains(texts, at) {
				t.Fatalf("%s is told in memory that is handed in, or was answered ahead", name)
			}
			texts = append(texts, at)
		}
	}
}

// R9: what is answered hangs on the code alone, not on what was asked ahead.
func TestNothingKept(t *testing.T) {
	var said []string
	for seed := range 300 {
		said = append(said, ask(scattered(seed)).text())
	}
	for seed := 299; seed >= 0; seed-- {
		ask(net{{1}, {0}, {1}}.code(0))
		if now := ask(scattered(seed)).text(); now != said[seed] {
			t.Fatalf("%s is %s", said[seed], now)
		}
	}
}
