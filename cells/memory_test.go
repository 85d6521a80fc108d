package cells_test

import (
	"runtime"
	"slices"
	"strconv"
	"strings"
	"sync"
	"testing"
	"unsafe"

	"tendril/api"
	"tendril/cells"
)

// roomy is a graph all of whose lists have spare room with something in it.
func roomy(g api.Graph) api.Graph {
	var out api.Graph
	for _, m := range g.Nodes {
		m.Args = roomyList(m.Args)
		out.Nodes = append(out.Nodes, m)
	}
	out.Nodes = append(out.Nodes, c("spare", 0, 7), a("spare"))[:len(g.Nodes)]
	out.Roots = roomyList(g.Roots)
	return out
}

func roomyList(list []int) []int {
	out := make([]int, len(list), len(list)+3)
	copy(out, list)
	copy(out[len(list):cap(out)], []int{77, -7, 0})
	return out
}

// whole is all that a graph says, and what stands in its spare room.
func whole(g api.Graph) string {
	var out strings.Builder
	list := func(name string, list []int) {
		out.WriteString(name + wholeList(list) + "; ")
	}
	out.WriteString(strconv.Itoa(len(g.Nodes)) + "/" + strconv.Itoa(cap(g.Nodes)) + ": ")
	for _, m := range g.Nodes[:cap(g.Nodes)] {
		list(strconv.Itoa(m.Kind)+strconv.Quote(m.Name)+strconv.Itoa(m.Num)+" ", m.Args)
	}
	list("roots ", g.Roots)
	return out.String()
}

func wholeList(list []int) string {
	out := strconv.Itoa(len(list)) + "/" + strconv.Itoa(cap(list))
	for _, x := range list[:cap(list)] {
		out += " " + strconv.Itoa(x)
	}
	return out
}

// overwrite puts other things into a graph, its spare room too.
func overwrite(g api.Graph) {
	for i := range g.Nodes[:cap(g.Nodes)] {
		m := &g.Nodes[:cap(g.Nodes)][i]
		overwriteList(m.Args)
		*m = api.Node{Kind: -5, Name: "over", Num: -5, Args: []int{-5}}
	}
	overwriteList(g.Roots)
}

func overwriteList(list []int) {
	for i := range list[:cap(list)] {
		list[:cap(list)][i] = -5
	}
}

// overwriteDump puts other things into a dump, its spare room too.
func overwriteDump(d api.Dump) {
	for i := range d.Words[:cap(d.Words)] {
		d.Words[:cap(d.Words)][i] = 7
	}
	for i := range d.Trail[:cap(d.Trail)] {
		d.Trail[:cap(d.Trail)][i] = api.Saved{At: -5, Old: 7}
	}
	for i := range d.Marks[:cap(d.Marks)] {
		d.Marks[:cap(d.Marks)][i] = api.Mark{Trail: -5, Top: -5, Difs: [][2]int{{-5, -5}}}
	}
	for i := range d.Names[:cap(d.Names)] {
		d.Names[:cap(d.Names)][i] = "over"
	}
}

// P11.6: graphs and lists that are handed in are as they were, spare room included, be they taken or refused; and the heap is as it was when they are written over.
func TestHandedIn(t *testing.T) {
	taken, not := 0, 0
	for seed := range 4000 {
		d := dice(seed)
		h := heap(t, 60)
		for range 4 {
			g := roomy(d.graph(10))
			if d.below(8) == 0 {
				g.Nodes[d.below(len(g.Nodes))].Kind = d.below(6)
			}
			if d.below(8) == 0 && len(g.Roots) > 0 {
				g.Roots[0] = -1
			}
			before := whole(g)
			h.Need(g)
			places, err := h.Put(g)
			if err != nil {
				not++
			} else {
				taken++
			}
			if after := whole(g); after != before {
				t.Fatalf("what was handed in was %s and is %s", before, after)
			}
			said := laid(h.Dump()) + wholeList(places)
			overwrite(g)
			if now := laid(h.Dump()) + wholeList(places); now != said {
				t.Fatalf("the heap was %s and is %s", said, now)
			}
			// Nor does the heap keep what it answered.
			dump := laid(h.Dump())
			overwriteList(places)
			if now := laid(h.Dump()); now != dump {
				t.Fatalf("the heap was %s and is %s", dump, now)
			}
		}
	}
	if taken < 4000 || not < 2000 {
		t.Errorf("%d taken, %d refused", taken, not)
	}
}

// P11.6: the places that are handed to Get and Reach, and the list that is handed to Slide, are as they were, and are not kept.
func TestListsHandedIn(t *testing.T) {
	for seed := range 3000 {
		d := dice(seed)
		h, m := heap(t, 100), &model{max: 100}
		for range 12 {
			x := d.call(m)
			x.inHeap(h)
			x.inModel(m)
		}
		var list []int
		for range d.below(5) {
			list = append(list, d.place(m))
		}
		places := roomyList(list)
		before := wholeList(places)
		g, err := h.Get(places...)
		h.Reach(places...)
		if wholeList(places) != before {
			t.Fatalf("what was handed in was %s and is %s", before, wholeList(places))
		}
		said := telling(g)
		overwriteList(places)
		if telling(g) != said {
			t.Fatal("an answer shares memory with what was handed in", said, err)
		}

		keep := d.kept(m)
		keep = append(keep, true, false, true)[:len(keep)]
		was := slices.Clone(keep[:cap(keep)])
		to, _ := h.Slide(keep)
		if !slices.Equal(keep[:cap(keep)], was) {
			t.Fatalf("what was handed in was %v and is %v", was, keep[:cap(keep)])
		}
		said = laid(h.Dump()) + wholeList(to)
		for i := range keep[:cap(keep)] {
			keep[:cap(keep)][i] = !keep[:cap(keep)][i]
		}
		if now := laid(h.Dump()) + wholeList(to); now != said {
			t.Fatalf("the heap was %s and is %s", said, now)
		}
		dump := laid(h.Dump())
		overwriteList(to)
		if now := laid(h.Dump()); now != dump {
			t.Fatalf("the heap was %s and is %s", dump, now)
		}
	}
}

// P11.6: lists that nodes have in common are as they were.
func TestListsInCommon(t *testing.T) {
	list := roomyList([]int{2, 3, 2})
	g := of(nodes(c("f"), c("f"), v(), a("a")))
	g.Nodes[0].Args, g.Nodes[1].Args, g.Roots = list, list, list
	before := whole(g)
	h := heap(t, 50)
	places := putGraph(t, h, g)
	_, err := h.Get(places...)
	if err != nil || whole(g) != before {
		t.Error(whole(g), err)
	}
	places[0] = 1
	if _, err := h.Get(places...); err != nil || !slices.Equal(places, []int{1, 1, 2}) {
		t.Error(places, err)
	}
}

// P11.6: what is answered twice shares no memory: one is as it was when the other is written over, and a third is the same; and the heap is as it was.
func TestAnsweredTwice(t *testing.T) {
	for seed := range 3000 {
		d := dice(seed)
		h, m := heap(t, 100), &model{max: 100}
		for range 12 {
			x := d.call(m)
			x.inHeap(h)
			x.inModel(m)
		}
		all := m.cells()
		type answers struct {
			g    api.Graph
			dump api.Dump
			look []api.Cell
		}
		ask := func() answers {
			g, err := h.Get(all...)
			if err != nil {
				t.Fatal(err)
			}
			x := answers{g: g, dump: h.Dump()}
			for _, at := range all {
				c, err := h.Look(at)
				if err != nil {
					t.Fatal(err)
				}
				x.look = append(x.look, c)
			}
			return x
		}
		text := func(x answers) string {
			out := telling(x.g) + laid(x.dump)
			for _, c := range x.look {
				out += strconv.Itoa(c.Kind) + c.Name + strconv.Itoa(c.At) + " " + strconv.Itoa(c.Num) + " " + wholeList(c.Args)
			}
			return out
		}
		spoil := func(x answers) {
			overwrite(x.g)
			overwriteDump(x.dump)
			for _, c := range x.look {
				overwriteList(c.Args)
			}
		}
		x, y := ask(), ask()
		said := text(x)
		spoil(y)
		if text(x) != said {
			t.Fatalf("seed %d: what was answered is written over", seed)
		}
		spoil(x)
		if text(ask()) != said {
			t.Fatalf("seed %d: an answer that is written over makes a difference", seed)
		}
		// A dump that is written over makes no difference to later changes.
		overwriteDump(h.Dump())
		for range 6 {
			x := d.call(m)
			wantCall(t, h, m, x, x.String)
			overwriteDump(h.Dump())
			wantModel(t, h, m, x.String)
		}
	}
}

// P11.6, R6: no two lists of one graph share memory, spare room included; nor do a dump's and those of another.
func TestListsOfOneAnswer(t *testing.T) {
	for seed := range 3000 {
		d := dice(seed)
		h := heap(t, 300)
		places := putGraph(t, h, d.graph(16))
		g, err := h.Get(places...)
		if err != nil {
			t.Fatal(err)
		}
		lists := [][]int{g.Roots, places}
		for _, m := range g.Nodes {
			lists = append(lists, m.Args)
		}
		for _, at := range append(slices.Clone(places), places...) {
			if c, err := h.Look(at); err == nil {
				lists = append(lists, c.Args)
			}
		}
		for i, list := range lists {
			for k := range list[:cap(list)] {
				list[:cap(list)][k] = 1000 + i
			}
		}
		for i, list := range lists {
			for _, x := range list[:cap(list)] {
				if x != 1000+i {
					t.Fatalf("two lists of one answer share memory: %s", telling(g))
				}
			}
		}
	}
}

// within tells whether a text is a piece of another's memory.
func within(whole, part string) bool {
	first := uintptr(unsafe.Pointer(unsafe.StringData(whole)))
	at := uintptr(unsafe.Pointer(unsafe.StringData(part)))
	return len(part) > 0 && at >= first && at < first+uintptr(len(whole))
}

// P11.6: names are new memory, too: none is a piece of what was handed in, and none of one answer is one of another's.
func TestNamesAreTheirOwn(t *testing.T) {
	source := strings.Clone("atom, comp(atom, other), late")
	g := of(nodes(c(source[6:10], 1, 2), v(), a(source[:4]), a(source[17:22])), 0, 3)
	h := heap(t, 50)
	places := putGraph(t, h, g)
	names := func() []string {
		out := h.Dump().Names
		for _, at := range []int{places[0], places[1], 4} {
			c, err := h.Look(at)
			if err != nil {
				t.Fatal(err)
			}
			out = append(out, c.Name)
		}
		got, err := h.Get(places...)
		if err != nil {
			t.Fatal(err)
		}
		for _, m := range got.Nodes {
			out = append(out, m.Name)
		}
		return out
	}
	all := slices.Concat(names(), names())
	for i, name := range all {
		if within(source, name) {
			t.Errorf("%q is a piece of what was handed in", name)
		}
		for _, other := range all[i+1:] {
			if within(other, name) {
				t.Errorf("%q is told twice by one text", name)
			}
		}
	}
	crammed := full(t)
	_, err := crammed.Put(of(nodes(a(source[25:])), 0))
	wantErr(t, "Put", err, refusal{errPut, -1, errNames, -1, "late"})
	if within(source, err.(*api.Fault).Cause.(*api.Fault).Name) {
		t.Error("a fault tells a piece of what was handed in")
	}
}

// held is how many bytes are in use when all that nobody holds any more is given back.
func held() uint64 {
	var m runtime.MemStats
	runtime.GC()
	runtime.ReadMemStats(&m)
	return m.HeapAlloc
}

// P11.6: nothing of what is handed in is kept beside the words and the names.
func TestNothingIsKept(t *testing.T) {
	h := heap(t, manyWords)
	point(t, h, 0)
	round := func() {
		g := of(nil, 0)
		for i := range most {
			g.Nodes = append(g.Nodes, c("f", (i+1)%most, i))
		}
		places := putGraph(t, h, g)
		if _, err := h.Get(places...); err != nil {
			t.Fatal(err)
		}
		for range 50 {
			putGraph(t, h, made("X", "0"))
			point(t, h, h.Points())
			wantNil(t, "Bind", h.Bind(h.Top()-1, 0))
		}
		if _, err := h.Slide(slices.Repeat([]bool{true}, h.Top())); err != nil {
			t.Fatal(err)
		}
		wantNil(t, "Undo", h.Undo(0))
	}
	round()
	before := held()
	for range 40 {
		round()
	}
	if after := held(); after > before+1<<20 {
		t.Errorf("%d bytes are held", after-before)
	}
	runtime.KeepAlive(h)
}

// R9: what a heap answers hangs on what was done with it alone, whoever else has a heap at the same time.
func TestAtTheSameTime(t *testing.T) {
	rows := make([][]call, 100)
	want := make([]string, len(rows))
	for i := range rows {
		d, m := dice(i), &model{max: 100}
		for range 20 {
			x := d.call(m)
			x.inModel(m)
			rows[i] = append(rows[i], x)
		}
		want[i] = laid(m.dump())
	}
	var wait sync.WaitGroup
	for range 8 {
		wait.Go(func() {
			for i, row := range rows {
				h, err := cells.New(100)
				if err != nil {
					t.Error(err)
					return
				}
				for _, x := range row {
					x.inHeap(h)
				}
				if got := laid(h.Dump()); got != want[i] {
					t.Errorf("%s: %s, want %s", told(row), got, want[i])
				}
			}
		})
	}
	wait.Wait()
}

// R9: several may ask a heap that nobody changes at the same time.
func TestAskedAtTheSameTime(t *testing.T) {
	h, _ := tower(t)
	want := laid(h.Dump())
	var wait sync.WaitGroup
	for range 8 {
		wait.Go(func() {
			for range 200 {
				g, err := h.Get(0, 1, 2, 3, 4, 5)
				reach, err2 := h.Reach(0, 5)
				_, err3 := h.Look(4)
				if err != nil || err2 != nil || err3 != nil || len(g.Roots) != 6 || reach < 2 || laid(h.Dump()) != want {
					t.Error(err, err2, err3)
				}
			}
		})
	}
	wait.Wait()
}
