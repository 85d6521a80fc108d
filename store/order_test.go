package store_test

import (
	"slices"
	"strconv"
	"strings"
	"testing"

	"tendril/api"
	"tendril/solve"
	"tendril/store"
)

// thingTold is a Tell or a Differ of two cells.
type thingTold struct {
	differ bool
	pair   [2]int
}

func (x thingTold) String() string {
	mark := "="
	if x.differ {
		mark = "#"
	}
	return strconv.Itoa(x.pair[0]) + mark + strconv.Itoa(x.pair[1])
}

// in tells it to a store.
func (x thingTold) in(t *testing.T, s *store.Store) bool {
	t.Helper()
	call := s.Tell
	if x.differ {
		call = s.Differ
	}
	ok, err := call(x.pair[0], x.pair[1])
	done(t, err)
	return ok
}

// outcome is what came of a row of things that were told: whether all were true, and then what all cells hold, and what is open, by the terms and sorted.
type outcome struct {
	all   bool
	terms string
	open  string
}

// toldAll tells a new store with the terms of a graph all of a row, in an order.
func toldAll(t *testing.T, g api.Graph, row []thingTold, order []int) (*store.Store, outcome) {
	t.Helper()
	s := empty(t, 300)
	put(t, s, g)
	all := dumped(s).cells()
	for _, i := range order {
		if !row[i].in(t, s) {
			return s, outcome{}
		}
	}
	wantSound(t, s)
	got, err := s.Get(all...)
	done(t, err)
	var open []string
	for _, pair := range s.Difs() {
		open = append(open, strconv.Itoa(pair[0])+"-"+strconv.Itoa(pair[1]))
	}
	slices.Sort(open)
	return s, outcome{true, telling(got), strings.Join(open, " ")}
}

// byLayer10 is the outcome as the words say it, without an order: the equations are solved at once, and each disequality is looked at in what they make of the terms.
func byLayer10(t *testing.T, g api.Graph, row []thingTold) outcome {
	t.Helper()
	s := empty(t, 300)
	put(t, s, g)
	all := dumped(s).cells()
	whole := dumped(s).graph(all...)
	root := func(at int) int { return slices.Index(all, at) }
	var pairs [][2]int
	for _, x := range row {
		if !x.differ {
			pairs = append(pairs, [2]int{whole.Roots[root(x.pair[0])], whole.Roots[root(x.pair[1])]})
		}
	}
	solved, ok, err := solve.Solve(whole, pairs)
	done(t, err)
	if !ok {
		return outcome{}
	}
	var open []string
	for _, x := range row {
		if !x.differ {
			continue
		}
		found, err := solve.Verdict(solved, [][2]int{{solved.Roots[root(x.pair[0])], solved.Roots[root(x.pair[1])]}})
		done(t, err)
		switch found.Kind {
		case isSame:
			return outcome{}
		case isOpen:
			open = append(open, strconv.Itoa(x.pair[0])+"-"+strconv.Itoa(x.pair[1]))
		}
	}
	slices.Sort(open)
	return outcome{true, telling(solved), strings.Join(open, " ")}
}

// orders is all orders of so many things.
func orders(count int) [][]int {
	if count == 0 {
		return [][]int{nil}
	}
	var out [][]int
	for _, less := range orders(count - 1) {
		for at := range count {
			out = append(out, slices.Insert(slices.Clone(less), at, count-1))
		}
	}
	return out
}

// rowOf is things told as data.
func rowOf(s string) []thingTold {
	var out []thingTold
	for x := range split(s) {
		mark := strings.IndexAny(x, "=#")
		out = append(out, thingTold{x[mark] == '#', [2]int{number(x[:mark]), number(x[mark+1:])}})
	}
	return out
}

// P14.2: rows that can all be true, and rows that can't, in all orders; the outcome is what layer 10 says of all at once.
func TestAllOrders(t *testing.T) {
	for _, x := range []struct{ terms, tells, open string }{
		{"X a b", "0#1 0=2", ""},
		{"X a b", "0#1 0=1", "none"},
		{"X Y f(0,1) f(4,5) a b c", "2#3 0=4 1=6", ""},
		{"X Y f(0,1) f(4,5) a b c", "2#3 0=4 1=5", "none"},
		{"X Y f(0,1) f(4,5) a b c", "2#3 0=4", "2-3"},
		{"X Y Z a b", "0#1 1#2 2#0 0=3", "0-1 1-2 2-0"},
		{"X Y Z a b", "0#1 1#2 2#0 0=3 1=4", "1-2 2-0"},
		{"X Y Z a b", "0#1 1#2 2#0 0=3 1=3", "none"},
		{"X Y Z a b", "0#2 0=1 1=2", "none"},
		{"X Y Z a b", "0#2 0=1 2=3 0#3 1#4", "0-2 0-3 1-4"},
		{"X Y f(0) f(1) f(4) a", "0#4 0=3 1=2", "none"},
		{"X Y f(0) f(1) f(4) a", "0#4 0=3 1=5 3#2", ""},
		{"X Y f(0,4) f(1,4) a Z", "2#3 0=2 1=3 5#0 5#1", "none"},
		{"X Y f(0,4) f(1,6) a Z U", "2#3 0=2 1=3 5#0 6#4", "2-3 5-0 6-4"},
		{"X Y f(0,4) f(1,6) a Z U", "0#1 0=2 1=3 5#0 6=4", "none"},
		{"X Y f(0,4) f(1,6) a Z U", "0#1 0=2 1=3 5#0", "0-1 5-0"},
	} {
		g, row := made(x.terms), rowOf(x.tells)
		want := byLayer10(t, g, row)
		open := strings.Fields(x.open)
		slices.Sort(open)
		if want.all != (x.open != "none") || want.all && want.open != strings.Join(open, " ") {
			t.Fatalf("%s, %s: layer 10 says %v, want %s", x.terms, x.tells, want, x.open)
		}
		for _, order := range orders(len(row)) {
			if _, got := toldAll(t, g, row, order); got != want {
				t.Fatalf("%s, %s, %v: %v, want %v", x.terms, x.tells, order, got, want)
			}
		}
	}
}

// row is things to be told of cells.
func (d *dice) row(m laidOpen) []thingTold {
	var out []thingTold
	for range 2 + d.below(6) {
		one, other := d.pair(m)
		out = append(out, thingTold{d.below(5) > 1, [2]int{one, other}})
	}
	return out
}

// shuffled is an order of so many things.
func (d *dice) shuffled(count int) []int {
	var out []int
	for i := range count {
		out = slices.Insert(out, d.below(i+1), i)
	}
	return out
}

// upTo is the numbers below one.
func upTo(count int) []int {
	var out []int
	for i := range count {
		out = append(out, i)
	}
	return out
}

// P14.2: scattered rows in several orders.
func TestOrders(t *testing.T) {
	yes, no, open := 0, 0, 0
	for seed := range 5000 {
		d := dice(seed + 1<<41)
		g := d.graph(10)
		s := empty(t, 300)
		put(t, s, g)
		row := d.row(dumped(s))
		want := byLayer10(t, g, row)
		for i := range 6 {
			order := d.shuffled(len(row))
			switch i {
			case 0:
				order = upTo(len(row))
			case 1:
				order = upTo(len(row))
				slices.Reverse(order)
			}
			if _, got := toldAll(t, g, row, order); got != want {
				t.Fatalf("%s, %v, %v: %v, want %v", telling(g), row, order, got, want)
			}
		}
		switch {
		case !want.all:
			no++
		case want.open != "":
			open++
			fallthrough
		default:
			yes++
		}
	}
	if yes < 500 || no < 500 || open < 300 {
		t.Errorf("%d were all true, %d of them with open ones, %d weren't", yes, open, no)
	}
}

// P14.2: the open disequalities of two orders have the same solutions: what may be given to the variables in the one may be in the other, each alone and all at once; and no solution is lost or won by telling what follows.
func TestSameSolutions(t *testing.T) {
	may, mayNot := 0, 0
	for seed := range 3000 {
		d := dice(seed + 1<<42)
		g := d.graph(8)
		// What is given: to each of some cells one of these terms.
		given := len(g.Nodes)
		g.Nodes = append(g.Nodes, a("a"), a("b"), n(0), c("f", given, given), c("f", given+1, given+4))
		for i := given; i < len(g.Nodes); i++ {
			g.Roots = append(g.Roots, i)
		}
		s := empty(t, 300)
		cells := put(t, s, g)
		m := dumped(s)
		row := d.row(m)
		one, got := toldAll(t, g, row, upTo(len(row)))
		if !got.all || got.open == "" {
			continue
		}
		other, _ := toldAll(t, g, row, d.shuffled(len(row)))
		var gifts []thingTold
		for range 4 {
			gifts = append(gifts, thingTold{false, [2]int{d.holding(m, kVar), d.among(cells[len(cells)-5:])}})
		}
		point(t, one, 0)
		point(t, other, 0)
		for _, order := range [][]int{{0}, {1}, {2}, {3}, {0, 1}, {1, 2}, {2, 3}, {0, 1, 2, 3}} {
			// The words, without an order: with the row's things, the gifts are true just if they are, too.
			all := slices.Clone(row)
			x, y := true, true
			for _, i := range order {
				all = append(all, gifts[i])
				x = x && gifts[i].in(t, one)
			}
			for _, i := range slices.Backward(order) {
				y = y && gifts[i].in(t, other)
			}
			want := byLayer10(t, g, all).all
			if x != want || y != want {
				t.Fatalf("%s, %v, given %v: %v and %v, want %v", telling(g), row, all[len(row):], x, y, want)
			}
			if want {
				may++
			} else {
				mayNot++
			}
			done(t, one.Undo(0))
			done(t, other.Undo(0))
		}
	}
	if may < 500 || mayNot < 500 {
		t.Errorf("%d may be given, %d may not", may, mayNot)
	}
}
