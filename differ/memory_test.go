package differ_test

import (
	"math"
	"runtime"
	"slices"
	"strconv"
	"sync"
	"testing"

	"tendril/api"
	"tendril/cells"
	"tendril/differ"
)

// roomy is places with spare room behind them, with something in it.
func roomy(places []int) []int {
	out := make([]int, len(places), len(places)+3)
	copy(out, places)
	copy(out[len(places):cap(out)], []int{77, -7, 1})
	return out
}

// P13.4: a verdict that is handed in is as it was, spare room included, be it still so or not, or refused; and it isn't kept.
func TestHandedIn(t *testing.T) {
	yes, no, refused := 0, 0, 0
	for seed := range 3000 {
		h := scattered(t, seed)
		d := dice(seed + 1<<44)
		m := open(h)
		var list []int
		for range d.below(4) {
			list = append(list, m.held(d.holding(m, kVar)).value)
			if d.below(8) == 0 {
				list[d.below(len(list))] = d.below(h.Top()+2) - 1
			}
		}
		vars := roomy(list)
		before := slices.Clone(vars[:cap(vars)])
		x := api.Verdict{Kind: d.below(5), Vars: vars}
		ok, err := differ.Still(h, x)
		switch {
		case err != nil:
			refused++
		case ok:
			yes++
		default:
			no++
		}
		if !slices.Equal(vars[:cap(vars)], before) || len(x.Vars) != len(list) {
			t.Fatalf("what was handed in was %v and is %v", before, vars[:cap(vars)])
		}
		for i := range vars[:cap(vars)] {
			vars[:cap(vars)][i] = -5
		}
		again, err2 := differ.Still(h, api.Verdict{Kind: x.Kind, Vars: list})
		if again != ok || (err == nil) != (err2 == nil) {
			t.Fatalf("%v, %v, and then %v, %v", ok, err, again, err2)
		}
		wantSame(t, "handed in", h.Dump(), m.Dump)
	}
	if yes < 500 || no < 200 || refused < 200 {
		t.Errorf("%d still so, %d not, %d refused", yes, no, refused)
	}
}

// P13.4: what is answered twice shares no memory, spare room included; who writes into an answer changes neither the heap nor a later answer.
func TestAnswersAreNew(t *testing.T) {
	several := 0
	for seed := range 3000 {
		h := scattered(t, seed)
		d := dice(seed + 1<<45)
		m := open(h)
		pair := d.ofOneFunctor(m)
		one, err := differ.Look(h, pair[0], pair[1])
		done(t, err)
		said := slices.Clone(one.Vars)
		other, err := differ.Look(h, pair[0], pair[1])
		done(t, err)
		for i := range one.Vars[:cap(one.Vars)] {
			one.Vars[:cap(one.Vars)][i] = math.MinInt
		}
		again, err := differ.Look(h, pair[1], pair[0])
		done(t, err)
		if !slices.Equal(other.Vars, said) || !slices.Equal(again.Vars, said) || slices.Contains(other.Vars[:cap(other.Vars)], math.MinInt) {
			t.Fatalf("%v, then %v and %v", said, other.Vars, again.Vars)
		}
		if len(said) > 1 {
			several++
		}
		wantSame(t, "written into", h.Dump(), m.Dump)
	}
	if several < 50 {
		t.Errorf("%d with several variables", several)
	}
}

// R2, P13.4: each fault is one of its own, with a cause of its own.
func TestFaultsAreTheirOwn(t *testing.T) {
	h, r := holding(t, "f(1) X: 0")
	spoil := func(err error) {
		f := err.(*api.Fault)
		if cause, ok := f.Cause.(*api.Fault); ok {
			*cause = api.Fault{Code: 7, At: 7, Name: "over"}
		}
		*f = api.Fault{Code: 7, At: 7, Name: "over"}
	}
	for range 3 {
		_, err := differ.Look(h, r[0], -1)
		if !isRefusal(err, 1) {
			t.Fatal(err)
		}
		spoil(err)
		_, err = differ.Still(h, api.Verdict{Vars: []int{0, r[0] + 1}})
		if !isRefusal(err, 1) {
			t.Fatal(err)
		}
		spoil(err)
		_, err = differ.Look(nil, 0, 0)
		if !isNil(err) {
			t.Fatal(err)
		}
		spoil(err)
		_, err = differ.Still(nil, api.Verdict{})
		if !isNil(err) {
			t.Fatal(err)
		}
		spoil(err)
	}
}

// held is how many bytes are in use when all that nobody holds any more is given back.
func held() uint64 {
	var m runtime.MemStats
	runtime.GC()
	runtime.ReadMemStats(&m)
	return m.HeapAlloc
}

// P13.1, P13.4: calls keep nothing: no point, no entry of the trail, no other memory.
func TestNothingIsKept(t *testing.T) {
	h := heap(t, manyWords)
	left, right := put(t, h, doubling(4000, v())), put(t, h, doubling(4000, a("a")))
	other := put(t, h, doubling(4000, a("b")))
	round := func() {
		for _, pair := range [][2]int{{left[0], right[0]}, {right[0], other[0]}, {left[0], left[0]}} {
			x, err := differ.Look(h, pair[0], pair[1])
			done(t, err)
			if ok, err := differ.Still(h, x); !ok || err != nil {
				t.Fatal(ok, err)
			}
		}
	}
	round()
	before := held()
	for range 40 {
		round()
	}
	if after := held(); after > before+1<<20 {
		t.Errorf("%d bytes are held", after-before)
	}
	if d := h.Dump(); len(d.Trail) != 0 || len(d.Marks) != 0 {
		t.Errorf("a trail of %d, %d points", len(d.Trail), len(d.Marks))
	}
}

// R9: what is answered hangs on the heap and the arguments alone, however often it is asked, and whoever else has a heap at the same time.
func TestAtTheSameTime(t *testing.T) {
	play := func(seed int) string {
		d := dice(seed)
		h, err := cells.New(150)
		if err != nil {
			return err.Error()
		}
		out := ""
		for range 12 {
			d.change(h)
			if all := open(h).cells(); len(all) > 0 {
				x, err := differ.Look(h, d.among(all), d.among(all))
				ok, err2 := differ.Still(h, x)
				out += said(x) + strconv.FormatBool(ok && err == nil && err2 == nil) + "; "
			}
		}
		return out + laid(h.Dump())
	}
	want := make([]string, 200)
	for seed := range want {
		want[seed] = play(seed)
	}
	var wait sync.WaitGroup
	for range 8 {
		wait.Go(func() {
			for seed := range want {
				if got := play(seed); got != want[seed] {
					t.Errorf("seed %d: %s, want %s", seed, got, want[seed])
				}
			}
		})
	}
	wait.Wait()
}
