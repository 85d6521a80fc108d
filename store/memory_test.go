package store_test

import (
	"math"
	"runtime"
	"slices"
	"strconv"
	"strings"
	"sync"
	"testing"
	"unsafe"

	"tendril/api"
	"tendril/store"
)

// roomy is a list with spare room behind it, with something in it.
func roomy[T any](list []T, spare ...T) []T {
	out := make([]T, len(list), len(list)+len(spare))
	copy(out, list)
	copy(out[len(list):cap(out)], spare)
	return out
}

// P14.4: what is handed to Put, Get, Reach and Slide is as it was, spare room included, be it taken or refused; and it isn't kept.
func TestHandedIn(t *testing.T) {
	for _, refused := range []bool{false, true} {
		s, r := mixed(t)
		before := s.Dump()

		g := made("f(1,2) Y b")
		if refused {
			g.Roots[2] = 9
		}
		g.Nodes = roomy(g.Nodes, v(), a("over"))
		g.Roots = roomy(g.Roots, 7, 8)
		g.Nodes[0].Args = roomy(g.Nodes[0].Args, 5, 6)
		want := telling(api.Graph{Nodes: g.Nodes[:cap(g.Nodes)], Roots: g.Roots[:cap(g.Roots)]})
		places, err := s.Put(g)
		if (err != nil) != refused {
			t.Fatal(err)
		}
		if got := telling(api.Graph{Nodes: g.Nodes[:cap(g.Nodes)], Roots: g.Roots[:cap(g.Roots)]}); got != want || !slices.Equal(g.Nodes[0].Args[:4], []int{1, 2, 5, 6}) {
			t.Errorf("%s, want %s", got, want)
		}
		if refused {
			wantUnchanged(t, "refused", s, before)
		} else {
			then := s.Dump()
			g.Nodes[0].Args[0], g.Nodes[1], g.Roots[0] = 7, a("over"), -4
			wantUnchanged(t, "written over", s, then)
			wantGet(t, s, places[:1], "f(1,2) X b: 0")
		}

		list := roomy(r, 77, -7)
		if refused {
			list[3] = -1
		}
		then := slices.Clone(list[:cap(list)])
		if _, err := s.Get(list...); (err != nil) != refused {
			t.Fatal(err)
		}
		if _, err := s.Reach(list...); (err != nil) != refused {
			t.Fatal(err)
		}
		if !slices.Equal(list[:cap(list)], then) {
			t.Errorf("%v, want %v", list[:cap(list)], then)
		}

		keep := bools(without(s))
		if refused {
			keep[s.Difs()[0][1]] = false
		}
		keep = roomy(keep, false, true, false)
		as := slices.Clone(keep[:cap(keep)])
		if _, err := s.Slide(keep); (err != nil) != refused {
			t.Fatal(err)
		}
		if !slices.Equal(keep[:cap(keep)], as) {
			t.Errorf("%v, want %v", keep[:cap(keep)], as)
		}
		now := s.Dump()
		clear(keep[:cap(keep)])
		wantUnchanged(t, "written over", s, now)
	}
}

// spoil writes over a list, spare room included.
func spoil[T any](list []T, with T) {
	for i := range list[:cap(list)] {
		list[:cap(list)][i] = with
	}
}

// spoilPairs and spoilDump write over all that was answered.
func spoilPairs(list [][2]int) { spoil(list, [2]int{-9, -9}) }

func spoilDump(d api.Dump) {
	for _, m := range d.Marks {
		spoilPairs(m.Difs)
	}
	spoilPairs(d.Difs)
	spoil(d.Words, math.MaxUint64)
	spoil(d.Trail, api.Saved{At: -9})
	spoil(d.Marks, api.Mark{Trail: -9})
	spoil(d.Names, "over")
}

// P14.4: what is answered twice shares no memory, spare room included, nor do two lists of one answer; who writes into an answer changes neither the store nor a later answer.
func TestAnswersAreNew(t *testing.T) {
	s, r := mixed(t)
	x := s.Dump()
	difs := slices.Clone(s.Difs())
	for _, d := range []api.Dump{s.Dump(), s.Dump()} {
		spoilDump(d)
		wantUnchanged(t, "Dump", s, x)
	}
	one, other := s.Difs(), s.Difs()
	spoilPairs(one)
	if !slices.Equal(other, difs) || !slices.Equal(s.Difs(), difs) {
		t.Error(other, s.Difs())
	}
	g, err := s.Get(r...)
	done(t, err)
	text := telling(g)
	for _, m := range g.Nodes {
		spoil(m.Args, -9)
	}
	spoil(g.Roots, -9)
	again, err := s.Get(r...)
	if err != nil || telling(again) != text {
		t.Error(telling(again), err)
	}
	cell, err := s.Look(r[0])
	done(t, err)
	args := slices.Clone(cell.Args)
	spoil(cell.Args, -9)
	if cell, err = s.Look(r[0]); err != nil || !slices.Equal(cell.Args, args) {
		t.Error(cell, err)
	}
	places := put(t, s, made("X Y Z"))
	x = s.Dump()
	spoil(places, -9)
	wantUnchanged(t, "Put", s, x)
	to, err := s.Slide(bools(without(s)))
	done(t, err)
	spoil(to, -9)
	wantUnchanged(t, "Slide", s, x)
	done(t, s.Undo(0))
	wantDifs(t, s, r, "4-5 2-6")
}

// P14.4: the lists of one Dump share no memory, though several points have the same disequalities.
func TestListsOfOneAnswer(t *testing.T) {
	s, r := holding(t, "X Y a b")
	play(t, s, r, "0#2 1#3", "tt")
	for p := range 4 {
		point(t, s, p)
	}
	d := s.Dump()
	want := slices.Clone(d.Difs)
	lists := [][][2]int{d.Difs}
	for _, m := range d.Marks {
		lists = append(lists, m.Difs)
	}
	for i, list := range lists {
		for k, other := range lists {
			// The last one of the spare room would be that of another list, if they had one memory.
			if i != k && &list[:cap(list)][cap(list)-1] == &other[:cap(other)][cap(other)-1] {
				t.Errorf("the lists %d and %d have one memory", i, k)
			}
		}
		if !slices.Equal(list, want) {
			t.Errorf("%v, want %v", list, want)
		}
		spoilPairs(list)
	}
	wantDifs(t, s, r, "0-2 1-3")
	for p := 3; p >= 0; p-- {
		done(t, s.Undo(p))
		wantDifs(t, s, r, "0-2 1-3")
	}
}

// P14.4: texts that are answered are new memory, too, and those that are handed in aren't kept.
func TestTexts(t *testing.T) {
	name := strings.Clone("atom")
	s := empty(t, 10)
	r := put(t, s, api.Graph{Nodes: []api.Node{a(name)}, Roots: []int{0}})
	cell, err := s.Look(r[0])
	done(t, err)
	d := s.Dump()
	if unsafe.StringData(cell.Name) == unsafe.StringData(name) || unsafe.StringData(d.Names[0]) == unsafe.StringData(name) || unsafe.StringData(d.Names[0]) == unsafe.StringData(s.Dump().Names[0]) {
		t.Error("a text's memory is shared")
	}
}

// R2, P14.4: each fault is one of its own, with a cause of its own.
func TestFaultsAreTheirOwn(t *testing.T) {
	s, r := mixed(t)
	over := func(err error) {
		f := err.(*api.Fault)
		if cause, ok := f.Cause.(*api.Fault); ok {
			*cause = api.Fault{Code: 7, At: 7, Name: "over"}
		}
		*f = api.Fault{Code: 7, At: 7, Name: "over"}
	}
	many, m := full(t, manyDifs)
	var none *store.Store
	for range 3 {
		_, err := s.Tell(r[0], -1)
		if !isStrange(err, 1) {
			t.Fatal(err)
		}
		over(err)
		if _, err = s.Differ(-1, r[0]); !isStrange(err, 0) {
			t.Fatal(err)
		}
		over(err)
		if _, err = many.Differ(m[1], m[2]); !isFault(err, errDifs, manyDifs) {
			t.Fatal(err)
		}
		over(err)
		if _, err = s.Slide(bools(without(s, s.Difs()[0][0]))); !isFault(err, errKeep, s.Difs()[0][0]) {
			t.Fatal(err)
		}
		over(err)
		if _, err = none.Tell(0, 0); !isFault(err, errNil, -1) {
			t.Fatal(err)
		}
		over(err)
		if err = none.Undo(0); !isFault(err, errNil, -1) {
			t.Fatal(err)
		}
		over(err)
	}
}

// held is how many bytes are in use when all that nobody holds any more is given back.
func held() uint64 {
	var m runtime.MemStats
	runtime.GC()
	runtime.ReadMemStats(&m)
	return m.HeapAlloc
}

// P14.1, P14.4: calls that are false, refused or undone keep nothing.
func TestNothingIsKept(t *testing.T) {
	s := empty(t, manyWords)
	r := put(t, s, doubled(3000, v()))
	r = append(r, put(t, s, doubled(3000, a("a")))...)
	r = append(r, put(t, s, made("X Y"))...)
	play(t, s, r, "0#1", "t")
	round := func() {
		before := s.Dump()
		for _, call := range []func(a, b int) (bool, error){s.Tell, s.Differ} {
			if _, err := call(r[0], -1); err == nil {
				t.Fatal("taken")
			}
		}
		if ok, err := s.Tell(r[0], r[1]); ok || err != nil {
			t.Fatal(ok, err)
		}
		p, err := s.Point()
		done(t, err)
		for range 20 {
			if ok, err := s.Differ(r[1], r[0]); !ok || err != nil {
				t.Fatal(ok, err)
			}
		}
		if _, err := s.Point(); err != nil {
			t.Fatal(err)
		}
		if ok, err := s.Tell(r[2], r[3]); !ok || err != nil {
			t.Fatal(ok, err)
		}
		done(t, s.Undo(p))
		done(t, s.Release(p))
		if !sameDump(s.Dump(), before) {
			t.Fatal("the store has changed")
		}
	}
	round()
	before := held()
	for range 20 {
		round()
	}
	if after := held(); after > before+1<<20 {
		t.Errorf("%d bytes are held", after-before)
	}
	runtime.KeepAlive(s)
}

// R9: what is answered hangs on the store and the arguments alone, however often it is asked, and whoever else has a store at the same time.
func TestAtTheSameTime(t *testing.T) {
	once := func(seed int) string {
		d := dice(seed)
		s, err := store.New(150)
		if err != nil {
			return err.Error()
		}
		m := newModel(150)
		out := ""
		for range 15 {
			x := d.call(m)
			x.inModel(m)
			got, err := x.inStore(s)
			for _, i := range got {
				out += strconv.Itoa(i) + " "
			}
			if err != nil {
				out += err.Error()
			}
			out += "; "
		}
		return out + laid(s.Dump())
	}
	want := make([]string, 200)
	for seed := range want {
		want[seed] = once(seed)
	}
	var wait sync.WaitGroup
	for range 8 {
		wait.Go(func() {
			for seed := range want {
				if got := once(seed); got != want[seed] {
					t.Errorf("seed %d: %s, want %s", seed, got, want[seed])
				}
			}
		})
	}
	wait.Wait()
}
