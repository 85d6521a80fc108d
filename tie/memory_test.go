package tie_test

import (
	"runtime"
	"slices"
	"strconv"
	"strings"
	"sync"
	"testing"
	"unsafe"

	"tendril/api"
	"tendril/tie"
)

// roomy is a term whose lists have spare room with something in it.
func roomy(e api.Expr) api.Expr {
	args := make([]api.Expr, len(e.Args), len(e.Args)+2)
	for i, x := range e.Args {
		args[i] = roomy(x)
	}
	spare := args[:cap(args)]
	spare[len(args)], spare[len(args)+1] = n(77), v("Spare")
	e.Args = args
	return e
}

// roomyTerms is terms all of whose lists have spare room with something in it.
func roomyTerms(x api.Terms) api.Terms {
	var out api.Terms
	for _, e := range x.Roots {
		out.Roots = append(out.Roots, roomy(e))
	}
	for _, q := range x.Eqs {
		out.Eqs = append(out.Eqs, eq(q.Name, roomy(q.Right)))
	}
	out.Roots = append(out.Roots, v("Spare"), n(7))[:len(x.Roots)]
	out.Eqs = append(out.Eqs, eq("Spare", n(7)), eq("X", n(8)))[:len(x.Eqs)]
	return out
}

// whole is all that a term says, and what stands in its spare room.
func whole(e api.Expr) string {
	out := strconv.Itoa(e.Kind) + strconv.Quote(e.Name) + strconv.Itoa(e.Num) + "(" + strconv.Itoa(len(e.Args)) + "/" + strconv.Itoa(cap(e.Args))
	for _, x := range e.Args[:cap(e.Args)] {
		out += " " + whole(x)
	}
	return out + ")"
}

func wholeTerms(x api.Terms) string {
	out := strconv.Itoa(len(x.Roots)) + " " + strconv.Itoa(len(x.Eqs))
	for _, e := range x.Roots[:cap(x.Roots)] {
		out += " " + whole(e)
	}
	for _, q := range x.Eqs[:cap(x.Eqs)] {
		out += " " + q.Name + " = " + whole(q.Right)
	}
	return out
}

// overwriteTerms puts other things into terms, their spare room too.
func overwriteTerms(x api.Terms) {
	for i := range x.Roots[:cap(x.Roots)] {
		overwriteExpr(&x.Roots[:cap(x.Roots)][i])
	}
	for i := range x.Eqs[:cap(x.Eqs)] {
		q := &x.Eqs[:cap(x.Eqs)][i]
		overwriteExpr(&q.Right)
		q.Name = "Over"
	}
}

func overwriteExpr(e *api.Expr) {
	for i := range e.Args[:cap(e.Args)] {
		overwriteExpr(&e.Args[:cap(e.Args)][i])
	}
	*e = a("over")
}

// overwrite puts other things into an answer, its spare room too.
func overwrite(g api.Graph, names []api.Named) {
	for i := range g.Nodes[:cap(g.Nodes)] {
		m := &g.Nodes[:cap(g.Nodes)][i]
		overwriteList(m.Args)
		*m = api.Node{Kind: -5, Name: "over", Num: -5, Args: []int{-5}}
	}
	overwriteList(g.Roots)
	for i := range names[:cap(names)] {
		names[:cap(names)][i] = api.Named{Name: "over", Node: -5}
	}
}

func overwriteList(list []int) {
	for i := range list[:cap(list)] {
		list[:cap(list)][i] = -5
	}
}

// spoil makes terms that may be refused out of some, in memory of their own.
func (d *dice) spoil(x api.Terms) {
	switch d.below(4) {
	case 0:
		if len(x.Eqs) > 0 {
			x.Eqs[d.below(len(x.Eqs))].Name = d.one("_", "x", "A", "")
		}
	case 1:
		if len(x.Eqs) > 0 {
			x.Eqs[d.below(len(x.Eqs))].Right.Num += great * 2
		}
	case 2:
		if len(x.Roots) > 0 {
			x.Roots[d.below(len(x.Roots))].Kind = d.below(7) - 1
		}
	}
}

// P8.4: what is handed in is as it was, spare room included, be it taken or refused; and an answer is as it was when that is written over.
func TestHandedIn(t *testing.T) {
	taken, refused := 0, 0
	for seed := range 6000 {
		d := dice(seed)
		x := roomyTerms(d.terms())
		d.spoil(x)
		before := wholeTerms(x)
		g, names, err := tie.Tie(x.Roots, x.Eqs)
		h, err2 := tie.Read(x)
		if wholeTerms(x) != before {
			t.Fatalf("what was handed in was %s and is %s", before, wholeTerms(x))
		}
		if err != nil {
			refused++
		} else {
			taken++
		}
		said, saidToo := telling(g, names)+tell(err), telling(h, nil)+tell(err2)
		overwriteTerms(x)
		if telling(g, names)+tell(err) != said || telling(h, nil)+tell(err2) != saidToo {
			t.Fatalf("an answer shares memory with what was handed in: %s is %s", said, telling(g, names)+tell(err))
		}
	}
	if taken < 1000 || refused < 1000 {
		t.Errorf("%d taken, %d refused", taken, refused)
	}
}

func tell(err error) string {
	if err == nil {
		return ""
	}
	return err.Error()
}

// P8.4: what is answered twice shares no memory: one is as it was when the other is written over, and a third is the same.
func TestAnsweredTwice(t *testing.T) {
	for seed := range 3000 {
		d := dice(seed)
		x := roomyTerms(d.terms())
		before := wholeTerms(x)
		g, names, _ := tie.Tie(x.Roots, x.Eqs)
		h, _ := tie.Read(x)
		said, saidToo := telling(g, names), telling(h, nil)
		again, other, _ := tie.Tie(x.Roots, x.Eqs)
		read, _ := tie.Read(x)
		overwrite(again, other)
		overwrite(read, nil)
		if telling(g, names) != said || telling(h, nil) != saidToo || wholeTerms(x) != before {
			t.Fatalf("%s is %s", said, telling(g, names))
		}
		if g, names, _ := tie.Tie(x.Roots, x.Eqs); telling(g, names) != said {
			t.Fatalf("%s, and behind that %s", said, telling(g, names))
		}
	}
}

// R6: no two lists of one answer share memory, spare room included.
func TestListsOfOneAnswer(t *testing.T) {
	for seed := range 3000 {
		d := dice(seed)
		x := d.terms()
		g, names, _ := tie.Tie(x.Roots, x.Eqs)
		told := telling(api.Graph{}, names)
		lists := [][]int{g.Roots}
		for _, m := range g.Nodes {
			lists = append(lists, m.Args)
		}
		for i, l := range lists {
			for k := range l[:cap(l)] {
				l[:cap(l)][k] = 1000 + i
			}
		}
		for i, l := range lists {
			if slices.ContainsFunc(l[:cap(l)], func(got int) bool { return got != 1000+i }) {
				t.Fatalf("two lists of one answer share memory: %v", g)
			}
		}
		if telling(api.Graph{}, names) != told {
			t.Fatalf("the graph shares memory with the names: %v", names)
		}
	}
}

// P8.4: one list that stands in several places of what is handed in is several in the answer.
func TestSharedLists(t *testing.T) {
	list := []api.Expr{v("X"), a("a"), v("X")}
	x := terms([]api.Expr{c("f", list...), c("g", list...)}, []api.Eq{eq("Y", c("f", list...))})
	g, names, err := tie.Tie(x.Roots, x.Eqs)
	if err != nil || telling(g, names) != telling(read("f(1,2,1) X a g(1,2,1)", "0 3"), []api.Named{{Name: "X", Node: 1}, {Name: "Y", Node: 0}}) {
		t.Fatal(g, names, err)
	}
	g.Nodes[0].Args[0] = 5
	if g.Nodes[3].Args[0] != 1 || list[0].Name != "X" {
		t.Error(g, list)
	}
}

// shares tells whether a text lies within another one's memory.
func shares(whole, part string) bool {
	first := uintptr(unsafe.Pointer(unsafe.StringData(whole)))
	at := uintptr(unsafe.Pointer(unsafe.StringData(part)))
	return len(part) > 0 && at >= first && at < first+uintptr(len(whole))
}

// P8.4: names are new memory, too: of nodes, of names, of faults.
func TestNamesAreTheirOwn(t *testing.T) {
	source := strings.Clone("Name atom Left comp x")
	words := strings.Fields(source)
	name, atom, left, comp, bad := words[0], words[1], words[2], words[3], words[4]
	if !shares(source, name) || !shares(source, bad) {
		t.Fatal("the words were copied")
	}
	g, names, err := tie.Tie([]api.Expr{c(comp, v(name), a(atom))}, []api.Eq{eq(left, c(comp, v(name), a(atom)))})
	if err != nil || len(names) != 2 || len(g.Nodes) != 3 {
		t.Fatal(g, names, err)
	}
	for _, s := range []string{g.Nodes[0].Name, g.Nodes[1].Name, g.Nodes[2].Name, names[0].Name, names[1].Name} {
		if shares(source, s) {
			t.Errorf("%q lies in what was handed in", s)
		}
	}
	for _, eqs := range [][]api.Eq{{eq(bad, a("a"))}, {eq(left, a("a")), eq(left, a("a"))}} {
		_, err := tie.Read(terms(nil, eqs))
		if f, ok := err.(*api.Fault); !ok || f.Name == "" || shares(source, f.Name) {
			t.Errorf("%v lies in what was handed in", err)
		}
	}
}

// held is how many bytes are in use when all that nobody holds any more is given back.
func held() uint64 {
	var m runtime.MemStats
	runtime.GC()
	runtime.ReadMemStats(&m)
	return m.HeapAlloc
}

// P8.4: nothing of what is handed in is kept from call to call.
func TestNothingIsKept(t *testing.T) {
	call := func(i int) {
		e := within(most-2-i, v(named(i)))
		if _, _, err := tie.Tie([]api.Expr{e}, []api.Eq{eq("X", v("X"))}); err != nil {
			t.Fatal(err)
		}
	}
	call(0)
	before := held()
	for i := range 40 {
		call(i)
	}
	if after := held(); after > before+1<<20 {
		t.Errorf("%d bytes are held", after-before)
	}
}

// R9: what is answered hangs on the arguments alone, whoever else asks at the same time.
func TestAtTheSameTime(t *testing.T) {
	var wait sync.WaitGroup
	for worker := range 8 {
		wait.Go(func() {
			for seed := range 400 {
				d := dice(seed + worker%2)
				x := d.terms()
				g, names := tied(x)
				got, told, err := tie.Tie(x.Roots, x.Eqs)
				if err != nil || telling(got, told) != telling(g, names) {
					t.Error(text(x), err)
				}
			}
		})
	}
	wait.Wait()
}
