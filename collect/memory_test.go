package collect_test

import (
	"runtime"
	"slices"
	"strconv"
	"sync"
	"testing"

	"tendril/collect"
	"tendril/store"
)

// roomy is a list with spare room behind it, with something in it.
func roomy(list []int, spare ...int) []int {
	out := make([]int, len(list), len(list)+len(spare))
	copy(out, list)
	copy(out[len(list):cap(out)], spare)
	return out
}

// spoil writes over a list, spare room included.
func spoil(list []int) {
	for i := range list[:cap(list)] {
		list[:cap(list)][i] = -9
	}
}

// P15.5: what is handed in is as it was, spare room included, be it taken or refused; and it isn't kept.
func TestHandedIn(t *testing.T) {
	for _, refused := range []bool{false, true} {
		s, r := mixed(t)
		roots := roomy(r[2:5], 77, -7, 0)
		if refused {
			roots[1] = -1
		}
		then := slices.Clone(roots[:cap(roots)])
		if _, err := collect.Count(s, roots); (err != nil) != refused {
			t.Fatal(err)
		}
		if !slices.Equal(roots[:cap(roots)], then) {
			t.Errorf("Count: %v, want %v", roots[:cap(roots)], then)
		}
		places, err := collect.Run(s, roots)
		if (err != nil) != refused {
			t.Fatal(err)
		}
		if !slices.Equal(roots[:cap(roots)], then) {
			t.Errorf("Run: %v, want %v", roots[:cap(roots)], then)
		}
		before, answered := laid(s.Dump()), slices.Clone(places)
		spoil(roots)
		if now := laid(s.Dump()); now != before || !slices.Equal(places, answered) {
			t.Errorf("the store is %s, want %s; %v, want %v", now, before, places, answered)
		}
	}
}

// P15.5: what is answered twice shares no memory, spare room included, neither with the roots nor with the store.
func TestAnswersAreNew(t *testing.T) {
	s, r := mixed(t)
	first := run(t, s, r)
	roots := slices.Clone(first)
	one, err := collect.Run(s, roots)
	done(t, err)
	other, err := collect.Run(s, roots)
	done(t, err)
	before, now := laid(s.Dump()), state(t, s, roots)
	for _, list := range [][]int{first, one} {
		spoil(list)
		if !slices.Equal(other, roots) || laid(s.Dump()) != before || state(t, s, roots) != now {
			t.Fatal(other, roots, laid(s.Dump()))
		}
	}
	spoil(other)
	again, err := collect.Run(s, roots)
	if err != nil || !slices.Equal(again, roots) || laid(s.Dump()) != before {
		t.Error(again, roots, err)
	}
	for p := s.Points() - 1; p >= 0; p-- {
		done(t, s.Undo(p))
		wantSound(t, s)
	}
}

// held is how many bytes are in use when all that nobody holds any more is given back.
func held() uint64 {
	var m runtime.MemStats
	runtime.GC()
	runtime.ReadMemStats(&m)
	return m.HeapAlloc
}

// P15.5: calls keep nothing, be they taken or refused.
func TestNothingIsKept(t *testing.T) {
	s := empty(t, manyWords)
	for range 7 {
		put(t, s, doubled(manyNodes-1, v()))
	}
	roots := dumped(s).cells()
	round := func() {
		if _, err := collect.Count(s, roots); err != nil {
			t.Fatal(err)
		}
		if places, err := collect.Run(s, roots); err != nil || len(places) != len(roots) {
			t.Fatal(err)
		}
		if _, err := collect.Run(s, append(slices.Clone(roots), -1)); err == nil {
			t.Fatal("taken")
		}
	}
	round()
	before := held()
	for range 20 {
		round()
	}
	if after := held(); after > before+1<<20 {
		t.Errorf("%d bytes are held", after-before)
	}
	runtime.KeepAlive(s)
}

// R9: what is answered hangs on the store and the roots alone, whoever else has a store at the same time.
func TestAtTheSameTime(t *testing.T) {
	once := func(seed int) string {
		d := dice(seed)
		s, err := store.New(150)
		if err != nil {
			return err.Error()
		}
		out := ""
		for range 5 {
			s.Put(d.graph(5))
			s.Point()
			all := dumped(s).cells()
			if len(all) > 0 {
				s.Differ(all[d.below(len(all))], all[d.below(len(all))])
				s.Tell(all[d.below(len(all))], all[d.below(len(all))])
			}
			roots := d.some(all)
			count, err := collect.Count(s, roots)
			places, no := collect.Run(s, roots)
			if err != nil || no != nil {
				return "refused"
			}
			for _, at := range append(places, count) {
				out += strconv.Itoa(at) + " "
			}
		}
		return out + laid(s.Dump())
	}
	want := make([]string, 200)
	for seed := range want {
		want[seed] = once(seed)
	}
	var wait sync.WaitGroup
	for range 8 {
		wait.Go(func() {
			for seed := range want {
				if got := once(seed); got != want[seed] {
					t.Errorf("seed %d: %s, want %s", seed, got, want[seed])
				}
			}
		})
	}
	wait.Wait()
}
