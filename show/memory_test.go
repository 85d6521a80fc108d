package show_test

import (
	"runtime"
	"strconv"
	"strings"
	"sync"
	"testing"
	"unsafe"

	"tendril/api"
	"tendril/show"
)

// roomy is a graph all of whose lists have spare room with something in it.
func roomy(g api.Graph) api.Graph {
	var out api.Graph
	for _, m := range g.Nodes {
		m.Args = roomyList(m.Args)
		out.Nodes = append(out.Nodes, m)
	}
	out.Nodes = append(out.Nodes, c("spare", 0, 7), a("spare"))[:len(g.Nodes)]
	out.Roots = roomyList(g.Roots)
	return out
}

func roomyList(list []int) []int {
	out := make([]int, len(list), len(list)+3)
	copy(out, list)
	copy(out[len(list):cap(out)], []int{77, -7, 0})
	return out
}

// whole is all that a graph says, and what stands in its spare room.
func whole(g api.Graph) string {
	var out strings.Builder
	list := func(name string, list []int) {
		out.WriteString(name + strconv.Itoa(len(list)) + "/" + strconv.Itoa(cap(list)))
		for _, x := range list[:cap(list)] {
			out.WriteString(" " + strconv.Itoa(x))
		}
		out.WriteString("; ")
	}
	out.WriteString(strconv.Itoa(len(g.Nodes)) + "/" + strconv.Itoa(cap(g.Nodes)) + ": ")
	for _, m := range g.Nodes[:cap(g.Nodes)] {
		list(strconv.Itoa(m.Kind)+strconv.Quote(m.Name)+strconv.Itoa(m.Num)+" ", m.Args)
	}
	list("roots ", g.Roots)
	return out.String()
}

// overwrite puts other things into a graph, its spare room too.
func overwrite(g api.Graph) {
	for i := range g.Nodes[:cap(g.Nodes)] {
		m := &g.Nodes[:cap(g.Nodes)][i]
		overwriteList(m.Args)
		*m = api.Node{Kind: -5, Name: "over", Num: -5, Args: []int{-5}}
	}
	overwriteList(g.Roots)
}

func overwriteList(list []int) {
	for i := range list[:cap(list)] {
		list[:cap(list)][i] = -5
	}
}

// overwriteTerms puts other things into written terms, their spare room too.
func overwriteTerms(x api.Terms) {
	overwriteExprs(x.Roots)
	for i := range x.Eqs[:cap(x.Eqs)] {
		q := &x.Eqs[:cap(x.Eqs)][i]
		overwriteExprs(q.Right.Args)
		*q = api.Eq{Name: "Over", Right: api.Expr{Kind: -5}}
	}
}

func overwriteExprs(list []api.Expr) {
	for i := range list[:cap(list)] {
		e := &list[:cap(list)][i]
		overwriteExprs(e.Args)
		*e = api.Expr{Kind: -5, Name: "over", Num: -5}
	}
}

// spoil makes a graph that may be refused out of one, in its own memory.
func (d *dice) spoil(g api.Graph) {
	m := &g.Nodes[d.below(len(g.Nodes))]
	switch d.below(5) {
	case 0:
		m.Kind = d.below(7) - 1
	case 1:
		m.Num = 1 << 60
	case 2:
		if len(g.Roots) > 0 {
			g.Roots[d.below(len(g.Roots))] = -1
		}
	}
}

func tell(err error) string {
	if err == nil {
		return ""
	}
	return err.Error()
}

// P9.5: what is handed in is as it was, spare room included, be it taken or refused; and an answer is as it was when that is written over.
func TestHandedIn(t *testing.T) {
	taken, refused := 0, 0
	for seed := range 4000 {
		d := dice(seed)
		g := roomy(d.graph())
		d.spoil(g)
		before := whole(g)
		text, err := show.Text(g)
		x, err2 := show.Terms(g)
		if whole(g) != before {
			t.Fatalf("what was handed in was %s and is %s", before, whole(g))
		}
		if err != nil {
			refused++
		} else {
			taken++
		}
		said := strings.Clone(text) + tell(err) + termsTelling(x) + tell(err2)
		overwrite(g)
		if text+tell(err)+termsTelling(x)+tell(err2) != said {
			t.Fatalf("an answer shares memory with what was handed in: %s", said)
		}
	}
	if taken < 1000 || refused < 1000 {
		t.Errorf("%d taken, %d refused", taken, refused)
	}
}

// P9.5: what is answered twice shares no memory: one is as it was when the other is written over, and a third is the same.
func TestAnsweredTwice(t *testing.T) {
	for seed := range 3000 {
		d := dice(seed)
		g := d.tree()
		text, err := show.Text(g)
		x, err2 := show.Terms(g)
		h, err3 := show.Read(text)
		if err != nil || err2 != nil || err3 != nil {
			t.Fatal(text, err, err2, err3)
		}
		terms, read := termsTelling(x), telling(h)
		y, _ := show.Terms(g)
		k, _ := show.Read(text)
		overwriteTerms(y)
		overwrite(k)
		if termsTelling(x) != terms || telling(h) != read {
			t.Fatalf("%s: what was answered is written over", text)
		}
		overwriteTerms(x)
		overwrite(h)
		wantText(t, g, text)
	}
}

// P9.5, R6: no two lists of one answer share memory, spare room included.
func TestListsOfOneAnswer(t *testing.T) {
	for seed := range 3000 {
		d := dice(seed)
		x, err := show.Terms(d.tree())
		if err != nil {
			t.Fatal(err)
		}
		lists := [][]api.Expr{x.Roots}
		for i := range x.Eqs {
			lists = append(lists, x.Eqs[i].Right.Args)
		}
		for i := 0; i < len(lists); i++ {
			for _, e := range lists[i] {
				lists = append(lists, e.Args)
			}
		}
		for i, list := range lists {
			for k := range list[:cap(list)] {
				list[:cap(list)][k].Num = 1000 + i
			}
		}
		for i, list := range lists {
			for _, e := range list[:cap(list)] {
				if e.Num != 1000+i {
					t.Fatalf("two lists of one answer share memory: %s", termsTelling(x))
				}
			}
		}
	}
}

// P9.5: an atom that stands in several places, and one list that stands in several nodes, are several in the answer.
func TestSharedLists(t *testing.T) {
	list := []int{2, 3, 2}
	g := of(nodes(c("f", list...), c("g", list...), v(), a("a")), 0, 1)
	wantText(t, g, "E1, E2 where E1 = f(V1,a,V1), E2 = g(V1,a,V1)")
	x, _ := show.Terms(g)
	x.Eqs[0].Right.Args[1].Name = "other"
	if x.Eqs[1].Right.Args[1].Name != "a" || g.Nodes[3].Name != "a" {
		t.Error(x, g)
	}
	wantText(t, g, "E1, E2 where E1 = f(V1,a,V1), E2 = g(V1,a,V1)")
}

// shares tells whether a text lies within another one's memory.
func shares(whole, part string) bool {
	first := uintptr(unsafe.Pointer(unsafe.StringData(whole)))
	at := uintptr(unsafe.Pointer(unsafe.StringData(part)))
	return len(part) > 0 && at >= first && at < first+uintptr(len(whole))
}

// P9.5: texts are new memory, too: the text itself, and names in terms, in graphs and in faults.
func TestTextsAreTheirOwn(t *testing.T) {
	source := strings.Clone("atom, comp(atom, Name) where Left = comp(Left)")
	atom, comp := source[:4], source[6:10]
	g := of(nodes(a(atom), c(comp, 0)), 0, 1)
	text, err := show.Text(of(g.Nodes, 0))
	if err != nil || text != "atom" || shares(source, text) {
		t.Errorf("%q, %v, is a piece of what was handed in", text, err)
	}
	x, err := show.Terms(g)
	if err != nil || shares(source, x.Roots[0].Name) || shares(source, x.Eqs[0].Right.Name) {
		t.Errorf("%v, %v, has a piece of what was handed in", x, err)
	}
	h, err := show.Read(source)
	if err != nil {
		t.Fatal(err)
	}
	for _, m := range h.Nodes {
		if shares(source, m.Name) {
			t.Errorf("%q is a piece of what was handed in", m.Name)
		}
	}
	bad := source + ", Left = atom"
	_, err = show.Read(bad)
	f, ok := err.(*api.Fault)
	if !ok || !isFault(err, fault(errRead, 1, "", fault(errEqTwice, 1, "Left", nil))) || shares(bad, f.Cause.(*api.Fault).Name) {
		t.Errorf("%v has a piece of what was handed in", err)
	}
}

// held is how many bytes are in use when all that nobody holds any more is given back.
func held() uint64 {
	var m runtime.MemStats
	runtime.GC()
	runtime.ReadMemStats(&m)
	return m.HeapAlloc
}

// P9.5: nothing of what is handed in is kept from call to call.
func TestNothingIsKept(t *testing.T) {
	call := func(i int) {
		g := chain(most-3-i, a("a"+strconv.Itoa(i)))
		text, err := show.Text(g)
		if err != nil {
			t.Fatal(err)
		}
		if _, err := show.Terms(g); err != nil {
			t.Fatal(err)
		}
		if _, err := show.Read(text); err != nil {
			t.Fatal(err)
		}
	}
	call(0)
	before := held()
	for i := range 40 {
		call(i)
	}
	if after := held(); after > before+1<<20 {
		t.Errorf("%d bytes are held", after-before)
	}
}

// R9: what is answered hangs on the arguments alone, whoever else asks at the same time.
func TestAtTheSameTime(t *testing.T) {
	var wait sync.WaitGroup
	for worker := range 8 {
		wait.Go(func() {
			for seed := range 200 {
				d := dice(seed + worker%2)
				g := d.tree()
				text := textOf(g)
				got, err := show.Text(g)
				h, err2 := show.Read(text)
				if err != nil || err2 != nil || got != text || telling(h) != telling(leastOf(g)) {
					t.Error(text, got, err, err2)
				}
			}
		})
	}
	wait.Wait()
}
