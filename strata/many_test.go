package strata_test

import (
	"slices"
	"strconv"
	"testing"

	"tendril/api"
	"tendril/strata"
)

// numbered is the net of so many predicates that a number tells, a bit a call: with all calls that may be, or without those of themselves.
func numbered(count, number int, selves bool) net {
	n := make(net, count)
	for p := range n {
		for q := range n {
			if p == q && !selves {
				continue
			}
			if number&1 == 1 {
				n[p] = append(n[p], q)
			}
			number >>= 1
		}
	}
	return n
}

// inParts does something for each number below a bound, in tests that run beside one another.
func inParts(t *testing.T, bound int, do func(t *testing.T, number int)) {
	const parts = 16
	for part := range parts {
		t.Run(strconv.Itoa(part), func(t *testing.T) {
			t.Parallel()
			for number := part; number < bound; number += parts {
				do(t, number)
			}
		})
	}
}

// P17.1: all nets of up to four predicates, with all choices of coinductive ones.
func TestSmallNets(t *testing.T) {
	for count := range 5 {
		inParts(t, 1<<(count*count), func(t *testing.T, number int) {
			n := numbered(count, number, true)
			x := n.code()
			circles := n.circles()
			wantNet(t, x, circles, n.levels())
			for co := range 1 << count {
				for p := range x.Preds {
					x.Preds[p].Co = co>>p&1 == 1
				}
				wantCheck(t, x, mixed(x.Preds, circles))
			}
		})
	}
}

// P17.1: all nets of five predicates that don't call themselves.
func TestNetsOfFive(t *testing.T) {
	inParts(t, 1<<(5*4), func(t *testing.T, number int) {
		n := numbered(5, number, false)
		wantNet(t, n.code(), n.circles(), n.levels())
	})
}

// P17.1, P17.2: scattered nets of up to MaxPreds predicates, in scattered form.
func TestScatteredNets(t *testing.T) {
	bad, good, deep, wide := 0, 0, 0, 0
	for seed := range 4000 {
		d := dice(seed)
		count := 1 + d.below(12)
		if seed%4 == 0 {
			count = 1 + d.below(mostPreds)
		}
		n := d.net(count)
		x := d.code(n)
		circles, levels := n.circles(), n.levels()
		d.mark(x.Preds, circles)
		at := mixed(x.Preds, circles)
		want(t, x, circles, levels, at)
		wantOrdered(t, x)
		if at == fine {
			good++
		} else {
			bad++
		}
		deep = max(deep, slices.Max(levels))
		if !slices.Equal(circles, upTo(count)) && !slices.Equal(circles, same(count, 0)) {
			wide++
		}
	}
	if good < 800 || bad < 800 || deep < 15 || wide < 2500 {
		t.Errorf("%d fine, %d not, levels up to %d, %d with several circles", good, bad, deep, wide)
	}
}

// wantOrdered stops the test unless each call leads to no higher level, and to the same one just within a circle.
func wantOrdered(t *testing.T, x api.Code) {
	t.Helper()
	circles, err := strata.Circles(x)
	levels, err2 := strata.Levels(x)
	if err != nil || err2 != nil {
		t.Fatal(err, err2)
	}
	for _, r := range x.Rules {
		for _, s := range r.Goals {
			if s.Kind != call {
				continue
			}
			from, to := r.Pred, s.Pred
			if levels[from] < levels[to] || (levels[from] == levels[to]) != (circles[from] == circles[to]) {
				t.Fatalf("%d calls %d: circles %v, levels %v", from, to, circles, levels)
			}
		}
	}
	for p, c := range circles {
		if c > p || circles[c] != c || levels[c] != levels[p] {
			t.Fatalf("circles %v, levels %v", circles, levels)
		}
	}
}

// P17.1, P17.2: nets with as many calls as a code may have, but for those that would lead upwards.
func TestFullNets(t *testing.T) {
	for _, blocks := range []int{1, 2, 8, 32, 64} {
		// Predicates call the next one of their block, and those of the blocks below and of their own, as far as there are goals.
		n := make(net, mostPreds)
		size := mostPreds / blocks
		var circles, levels []int
		for p := range n {
			block := p / size
			n[p] = append(n[p], block*size+(p+1)%size)
			for i := 0; i < (block+1)*size && len(n[p]) < 2*mostGoals; i++ {
				n[p] = append(n[p], (block*size+(block+1)*size-1-i)%((block+1)*size))
			}
			circles = append(circles, block*size)
			levels = append(levels, block)
		}
		x := n.code()
		if len(x.Rules) > mostClauses {
			t.Fatal(len(x.Rules))
		}
		want(t, x, circles, levels, fine)
		wantOrdered(t, x)
		for _, odd := range []int{0, 63, 64, 127} {
			x.Preds[odd].Co = true
			wantCheck(t, x, odd-odd%size)
			x.Preds[odd].Co = false
		}
	}
}

// P17.1: with other numbers of the predicates the circles and levels are the same ones.
func TestOtherNumbers(t *testing.T) {
	for seed := range 600 {
		d := dice(seed)
		n := d.net(1 + d.below(30))
		x := n.code()
		circles, levels := n.circles(), n.levels()
		number := d.shuffled(len(n))
		turned := make(net, len(n))
		for p, called := range n {
			for _, q := range called {
				turned[number[p]] = append(turned[number[p]], number[q])
			}
		}
		y := turned.code()
		d.mark(x.Preds, circles)
		least := make([]int, len(n))
		for p := range n {
			y.Preds[number[p]].Co = x.Preds[p].Co
			least[p] = len(n)
		}
		for p := range n {
			least[circles[p]] = min(least[circles[p]], number[p])
		}
		circles2, levels2 := make([]int, len(n)), make([]int, len(n))
		for p := range n {
			circles2[number[p]], levels2[number[p]] = least[circles[p]], levels[p]
		}
		wantNet(t, y, circles2, levels2)
		if (strata.Check(x) == nil) != (strata.Check(y) == nil) {
			t.Fatalf("%v, %v", n, number)
		}
	}
}

// P17.1: which kinds predicates have makes no difference to circles and levels; nor do names, numbers of arguments, terms, and the order of rules and goals.
func TestWhatCounts(t *testing.T) {
	for seed := range 600 {
		d := dice(seed)
		n := d.net(1 + d.below(40))
		circles, levels := n.circles(), n.levels()
		for range 4 {
			x := d.code(n)
			wantNet(t, x, circles, levels)
			d.mark(x.Preds, circles)
			wantNet(t, x, circles, levels)
			var kinds []api.Pred
			for _, p := range x.Preds {
				kinds = append(kinds, api.Pred{Co: !p.Co})
			}
			for p := range x.Preds {
				x.Preds[p].Co = kinds[p].Co
			}
			// Turned about, each circle has both kinds just if it had them.
			wantCheck(t, x, mixed(kinds, circles))
		}
	}
}
