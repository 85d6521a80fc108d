package solve_test

import (
	"runtime"
	"slices"
	"strconv"
	"strings"
	"sync"
	"testing"
	"unsafe"

	"tendril/api"
	"tendril/graph"
	"tendril/solve"
)

// roomy is a graph all of whose lists have spare room with something in it.
func roomy(g api.Graph) api.Graph {
	var out api.Graph
	for _, m := range g.Nodes {
		m.Args = roomyList(m.Args)
		out.Nodes = append(out.Nodes, m)
	}
	out.Nodes = append(out.Nodes, c("spare", 0, 7), a("spare"))[:len(g.Nodes)]
	out.Roots = roomyList(g.Roots)
	return out
}

func roomyList(list []int) []int {
	out := make([]int, len(list), len(list)+3)
	copy(out, list)
	copy(out[len(list):cap(out)], []int{77, -7, 0})
	return out
}

func roomyPairs(pairs [][2]int) [][2]int {
	out := append(slices.Clone(pairs), [2]int{-7, 77}, [2]int{0, 0})
	return out[:len(pairs)]
}

// whole is all that a graph says, and what stands in its spare room.
func whole(g api.Graph) string {
	var out strings.Builder
	list := func(name string, list []int) {
		out.WriteString(name + strconv.Itoa(len(list)) + "/" + strconv.Itoa(cap(list)))
		for _, x := range list[:cap(list)] {
			out.WriteString(" " + strconv.Itoa(x))
		}
		out.WriteString("; ")
	}
	out.WriteString(strconv.Itoa(len(g.Nodes)) + "/" + strconv.Itoa(cap(g.Nodes)) + ": ")
	for _, m := range g.Nodes[:cap(g.Nodes)] {
		list(strconv.Itoa(m.Kind)+strconv.Quote(m.Name)+strconv.Itoa(m.Num)+" ", m.Args)
	}
	list("roots ", g.Roots)
	return out.String()
}

func wholePairs(pairs [][2]int) string {
	return strconv.Itoa(len(pairs)) + "/" + strconv.Itoa(cap(pairs)) + " " + pairsTelling(pairs[:cap(pairs)])
}

// overwrite puts other things into a graph, its spare room too.
func overwrite(g api.Graph) {
	for i := range g.Nodes[:cap(g.Nodes)] {
		m := &g.Nodes[:cap(g.Nodes)][i]
		overwriteList(m.Args)
		*m = api.Node{Kind: -5, Name: "over", Num: -5, Args: []int{-5}}
	}
	overwriteList(g.Roots)
}

func overwriteList(list []int) {
	for i := range list[:cap(list)] {
		list[:cap(list)][i] = -5
	}
}

// answers is what the calls answer.
type answers struct {
	g       api.Graph
	ok      bool
	verdict api.Verdict
	is      bool
	errs    []error
}

func asked(g, p api.Graph, pairs [][2]int) answers {
	var x answers
	var err [3]error
	x.g, x.ok, err[0] = solve.Solve(g, pairs)
	x.verdict, err[1] = solve.Verdict(g, pairs)
	x.is, err[2] = solve.Instance(p, g)
	x.errs = err[:]
	return x
}

func (x answers) telling() string {
	out := telling(x.g) + strconv.FormatBool(x.ok) + strconv.FormatBool(x.is) + strconv.Itoa(x.verdict.Kind)
	for _, i := range x.verdict.Vars {
		out += " " + strconv.Itoa(i)
	}
	for _, err := range x.errs {
		out += "; "
		if err != nil {
			out += err.Error()
		}
	}
	return out
}

// spoil makes a graph and pairs that may be refused out of some, in their own memory.
func (d *dice) spoil(g api.Graph, pairs [][2]int) {
	m := &g.Nodes[d.below(len(g.Nodes))]
	switch d.below(8) {
	case 0:
		m.Kind = d.below(7) - 1
	case 1:
		m.Num = 1 << 60
	case 2:
		if len(g.Roots) > 0 {
			g.Roots[d.below(len(g.Roots))] = -1
		}
	case 3:
		if len(pairs) > 0 {
			pairs[d.below(len(pairs))][d.below(2)] = len(g.Nodes)
		}
	}
}

// P10.4: what is handed in is as it was, spare room included, be it taken or refused; and an answer is as it was when that is written over.
func TestHandedIn(t *testing.T) {
	var count census
	for seed := range 8000 {
		d := dice(seed)
		g := roomy(d.graph(12))
		p, pairs := roomy(d.less(g)), roomyPairs(d.pairs(len(g.Nodes)))
		d.spoil(g, pairs)
		before := whole(g) + whole(p) + wholePairs(pairs)
		x := asked(g, p, pairs)
		if after := whole(g) + whole(p) + wholePairs(pairs); after != before {
			t.Fatalf("what was handed in was %s and is %s", before, after)
		}
		count[x.verdict.Kind]++
		said := x.telling()
		overwrite(g)
		overwrite(p)
		for i := range pairs[:cap(pairs)] {
			pairs[:cap(pairs)][i] = [2]int{-5, -5}
		}
		if x.telling() != said {
			t.Fatalf("an answer shares memory with what was handed in: %s", said)
		}
	}
	if slices.Min(count[:]) < 1000 {
		t.Errorf("%d refused, %d apart, %d the same, %d open", count[0], count[apart], count[same], count[open])
	}
}

// P10.4: one that stands for p and for t, and lists that nodes have in common, are as they were.
func TestHandedInTwice(t *testing.T) {
	list := roomyList([]int{2, 3, 2})
	g := of(nodes(c("f", list...), c("f", list...), v(), a("a")), list...)
	g.Nodes[0].Args, g.Nodes[1].Args, g.Roots = list, list, list
	before := whole(g)
	x := asked(g, g, paired("0-1 2-3"))
	if whole(g) != before || x.telling() != "2 \"a\" 0; roots 0 0 0truetrue3 2; ; ; " {
		t.Errorf("%s; %s", whole(g), x.telling())
	}
}

// P10.4: what is answered twice shares no memory: one is as it was when the other is written over, and a third is the same.
func TestAnsweredTwice(t *testing.T) {
	for seed := range 5000 {
		d := dice(seed)
		g := d.graph(12)
		pairs := d.pairs(len(g.Nodes))
		x, y := asked(g, g, pairs), asked(g, g, pairs)
		said := x.telling()
		overwrite(y.g)
		overwriteList(y.verdict.Vars)
		if x.telling() != said {
			t.Fatalf("%s, %v: what was answered is written over", telling(g), pairs)
		}
		overwrite(x.g)
		overwriteList(x.verdict.Vars)
		if asked(g, g, pairs).telling() != said {
			t.Fatalf("%s, %v: an answer that is written over makes a difference", telling(g), pairs)
		}
	}
}

// P10.4, R6: no two lists of one answer share memory, spare room included.
func TestListsOfOneAnswer(t *testing.T) {
	for seed := range 5000 {
		d := dice(seed)
		g := d.graph(16)
		h, _, err := solve.Solve(g, d.pairs(len(g.Nodes)))
		if err != nil {
			t.Fatal(err)
		}
		lists := [][]int{h.Roots}
		for _, m := range h.Nodes {
			lists = append(lists, m.Args)
		}
		for i, list := range lists {
			for k := range list[:cap(list)] {
				list[:cap(list)][k] = 1000 + i
			}
		}
		for i, list := range lists {
			for _, x := range list[:cap(list)] {
				if x != 1000+i {
					t.Fatalf("two lists of one answer share memory: %s", telling(h))
				}
			}
		}
	}
}

// P10.4: names are new memory, too, be they of a graph that is solved or of one that has no pairs.
func TestNamesAreTheirOwn(t *testing.T) {
	source := strings.Clone("atom, comp(atom, other)")
	first := uintptr(unsafe.Pointer(unsafe.StringData(source)))
	g := of(nodes(c(source[6:10], 1, 2), v(), a(source[:4]), a(source[17:22])), 0, 1)
	for _, pairs := range [][][2]int{nil, paired("1-2"), paired("1-3"), paired("1-0")} {
		h, ok, err := solve.Solve(g, pairs)
		if err != nil || !ok {
			t.Fatal(ok, err)
		}
		for _, m := range h.Nodes {
			at := uintptr(unsafe.Pointer(unsafe.StringData(m.Name)))
			if len(m.Name) > 0 && at >= first && at < first+uintptr(len(source)) {
				t.Errorf("%q is a piece of what was handed in", m.Name)
			}
		}
	}
}

// held is how many bytes are in use when all that nobody holds any more is given back.
func held() uint64 {
	var m runtime.MemStats
	runtime.GC()
	runtime.ReadMemStats(&m)
	return m.HeapAlloc
}

// P10.4: nothing of what is handed in is kept from call to call.
func TestNothingIsKept(t *testing.T) {
	call := func(i int) {
		g := of(chain(most-1-i, 2, v()), 0)
		x := asked(g, g, [][2]int{{0, most - 1 - i}})
		if !x.ok || !x.is || !graph.Same(x.g, made("f(0,0)", "0")) {
			t.Fatal(x.telling())
		}
	}
	call(0)
	before := held()
	for i := range 40 {
		call(i)
	}
	if after := held(); after > before+1<<20 {
		t.Errorf("%d bytes are held", after-before)
	}
}

// R9: what is answered hangs on the arguments alone, whoever else asks at the same time.
func TestAtTheSameTime(t *testing.T) {
	g := make([]api.Graph, 200)
	pairs := make([][][2]int, len(g))
	for i := range g {
		d := dice(i)
		g[i] = d.graph(12)
		pairs[i] = d.pairs(len(g[i].Nodes))
	}
	var wait sync.WaitGroup
	for range 8 {
		wait.Go(func() {
			for i := range g {
				want, ok, verdict := solved(g[i], pairs[i])
				x := asked(g[i], g[i], pairs[i])
				if !graph.Same(x.g, want) || x.ok != ok || x.verdict.Kind != verdict.Kind || !slices.Equal(x.verdict.Vars, verdict.Vars) || !x.is {
					t.Error(telling(g[i]), pairs[i], x.telling())
				}
			}
		})
	}
	wait.Wait()
}
