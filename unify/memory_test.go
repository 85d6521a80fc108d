package unify_test

import (
	"runtime"
	"slices"
	"strconv"
	"sync"
	"testing"

	"tendril/api"
	"tendril/cells"
	"tendril/unify"
)

// roomy is pairs with spare room behind them, with something in it.
func roomy(pairs [][2]int) [][2]int {
	out := make([][2]int, len(pairs), len(pairs)+3)
	copy(out, pairs)
	copy(out[len(pairs):cap(out)], [][2]int{{77, -7}, {0, 0}, {0, 1}})
	return out
}

// P12.1, R6: pairs that are handed in are as they were, spare room included, be they made one, refused, or neither; and they aren't kept.
func TestHandedIn(t *testing.T) {
	var found census
	refused := 0
	for seed := range 3000 {
		d := dice(seed)
		h := heap(t, 120)
		for range 10 {
			d.change(h)
		}
		put(t, h, made("X: 0"))
		all := open(h).cells()
		var list [][2]int
		for range d.below(4) {
			list = append(list, [2]int{d.among(all), d.among(all)})
			if d.below(8) == 0 {
				list[0][d.below(2)] = d.below(h.Top()+2) - 1
			}
		}
		pairs := roomy(list)
		before := slices.Clone(pairs[:cap(pairs)])
		ok, err := unify.All(h, pairs)
		if err != nil {
			refused++
		} else {
			found.count(ok)
		}
		if !slices.Equal(pairs[:cap(pairs)], before) {
			t.Fatalf("what was handed in was %v and is %v", before, pairs[:cap(pairs)])
		}
		said := laid(h.Dump())
		for i := range pairs[:cap(pairs)] {
			pairs[:cap(pairs)][i] = [2]int{-5, -5}
		}
		if now := laid(h.Dump()); now != said {
			t.Fatalf("the heap was %s and is %s", said, now)
		}
	}
	if found.yes < 500 || found.no < 500 || refused < 100 {
		t.Errorf("%v, %d refused", found, refused)
	}
}

// R2, R6: each fault is one of its own, with a cause of its own.
func TestFaultsAreTheirOwn(t *testing.T) {
	h, r := holding(t, "f(1) X: 0")
	spoil := func(err error) {
		f := err.(*api.Fault)
		cause := f.Cause.(*api.Fault)
		*cause = api.Fault{Code: 7, At: 7, Name: "over"}
		*f = api.Fault{Code: 7, At: 7, Name: "over"}
	}
	for range 3 {
		_, err := unify.Unify(h, r[0], -1)
		if !isRefusal(err, 1, 1) {
			t.Fatal(err)
		}
		spoil(err)
		_, err = unify.All(h, [][2]int{{0, 0}, {r[0] + 1, 0}})
		if !isRefusal(err, 1, 0) {
			t.Fatal(err)
		}
		spoil(err)
		_, err = unify.All(nil, nil)
		if !isNil(err) {
			t.Fatal(err)
		}
		*err.(*api.Fault) = api.Fault{Code: 7, At: 7, Name: "over"}
	}
}

// held is how many bytes are in use when all that nobody holds any more is given back.
func held() uint64 {
	var m runtime.MemStats
	runtime.GC()
	runtime.ReadMemStats(&m)
	return m.HeapAlloc
}

// P12.1: calls keep nothing beside the words and what chapter 11 trails; without a point the trail stays empty, and behind Undo it is as it was.
func TestNothingIsKept(t *testing.T) {
	h := heap(t, manyWords)
	left, right := put(t, h, doubling(4000, v())), put(t, h, doubling(4000, a("a")))
	other := put(t, h, doubling(4000, a("b")))
	round := func() {
		p, err := h.Point()
		done(t, err)
		if ok, err := unify.Unify(h, left[0], right[0]); !ok || err != nil {
			t.Fatal(ok, err)
		}
		if ok, err := unify.Unify(h, left[0], other[0]); ok || err != nil {
			t.Fatal(ok, err)
		}
		done(t, h.Undo(p))
		done(t, h.Release(p))
		if ok, err := unify.All(h, [][2]int{{left[0], other[0]}, {left[0], right[0]}}); ok || err != nil {
			t.Fatal(ok, err)
		}
	}
	round()
	before := held()
	for range 40 {
		round()
	}
	if after := held(); after > before+1<<20 {
		t.Errorf("%d bytes are held", after-before)
	}
	if d := h.Dump(); len(d.Trail) != 0 || len(d.Marks) != 0 {
		t.Errorf("a trail of %d, %d points", len(d.Trail), len(d.Marks))
	}
	for range 3 {
		if ok, err := unify.Unify(h, left[0], right[0]); !ok || err != nil || len(h.Dump().Trail) != 0 {
			t.Fatal(ok, err, len(h.Dump().Trail))
		}
	}
}

// R9: what is answered hangs on the heap and the arguments alone, however often it is asked, and whoever else has a heap at the same time.
func TestAtTheSameTime(t *testing.T) {
	play := func(seed int) string {
		d := dice(seed)
		h, err := cells.New(150)
		if err != nil {
			return err.Error()
		}
		out := ""
		for range 12 {
			d.change(h)
			if all := open(h).cells(); len(all) > 0 {
				ok, err := unify.All(h, [][2]int{{d.among(all), d.among(all)}, {d.among(all), d.among(all)}})
				out += strconv.FormatBool(ok)
				if err != nil {
					out += err.Error()
				}
			}
		}
		return out + laid(h.Dump())
	}
	want := make([]string, 200)
	for seed := range want {
		want[seed] = play(seed)
	}
	var wait sync.WaitGroup
	for range 8 {
		wait.Go(func() {
			for seed := range want {
				if got := play(seed); got != want[seed] {
					t.Errorf("seed %d: %s, want %s", seed, got, want[seed])
				}
			}
		})
	}
	wait.Wait()
}
