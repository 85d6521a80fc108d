package show_test

import (
	"slices"
	"strconv"
	"strings"
	"testing"

	"tendril/api"
	"tendril/bisim"
	"tendril/graph"
	"tendril/parse"
	"tendril/show"
	"tendril/tie"
)

// P9.1 to P9.4: scattered graphs, and the same ones written otherwise.
func TestManyGraphs(t *testing.T) {
	eqs, whole, circles := 0, 0, 0
	for seed := range 8000 {
		d := dice(seed)
		g := d.graph()
		if seed%2 == 1 {
			g = d.tree()
		}
		text := textOf(g)
		wantText(t, g, text)
		wantText(t, d.otherwise(g), text)
		least := leastOf(g)
		eqs += strings.Count(text, " = ")
		for _, m := range least.Nodes {
			if m.Kind == kComp {
				whole++
			}
		}
		if holds, _ := graph.Cyclic(g); holds {
			circles++
		}
	}
	if eqs < 10000 || whole < eqs+10000 || circles < 2000 {
		t.Errorf("%d equations, %d compounds, %d graphs with circles", eqs, whole, circles)
	}
}

// P9.3: scattered graphs, each with one that is changed a little: they have one text just if they are the same up to their variables.
func TestManyPairs(t *testing.T) {
	same, other := 0, 0
	for seed := range 20000 {
		d := dice(seed)
		g := d.graph()
		h := d.otherwise(d.changed(g))
		one, err := show.Text(g)
		two, err2 := show.Text(h)
		if err != nil || err2 != nil || (one == two) != sameUpTo(g, h) || (one == two) != bisim.Alike(g, h) {
			t.Fatalf("%s and %s: %s, %v, and %s, %v", telling(g), telling(h), one, err, two, err2)
		}
		if one == two {
			same++
		} else {
			other++
		}
	}
	if same < 2000 || other < 2000 {
		t.Errorf("%d the same, %d not", same, other)
	}
}

// P9.1 to P9.4: all graphs of three nodes of some kinds, under some roots; those of one text are the same up to their variables, and no others are.
func TestAllSmall(t *testing.T) {
	kinds := nodes(v(), a("a"), a("[]"), n(1))
	for i := range 3 {
		kinds = append(kinds, c("f", i))
		for j := range 3 {
			kinds = append(kinds, c(".", i, j))
		}
	}
	first := map[string]api.Graph{}
	for _, x := range kinds {
		for _, y := range kinds {
			for _, z := range kinds {
				for _, roots := range [][]int{{0}, {0, 1}, {1, 0, 1}} {
					g := of(nodes(x, y, z), roots...)
					text := textOf(g)
					wantText(t, g, text)
					if h, ok := first[text]; !ok {
						first[text] = g
					} else if !sameUpTo(g, h) {
						t.Fatalf("%s and %s: both %s", telling(g), telling(h), text)
					}
				}
			}
		}
	}
	var texts []string
	for text := range first {
		texts = append(texts, text)
	}
	slices.Sort(texts)
	for i, one := range texts {
		for _, other := range texts[:i] {
			if sameUpTo(first[one], first[other]) {
				t.Fatalf("one graph is told as %s and as %s", one, other)
			}
		}
	}
	if len(texts) < 1000 {
		t.Errorf("%d texts", len(texts))
	}
}

// source is a text of terms with equations that parse.Terms takes; some of them tie.Read doesn't.
func (d *dice) source() string {
	var roots, eqs []string
	for range 1 + d.below(4) {
		roots = append(roots, d.term(3))
	}
	for _, i := range []int{0, 1, 2, 3, 4} {
		switch name := string(rune('A' + i)); d.below(12) {
		case 0, 1, 2:
		case 3:
			eqs = append(eqs, d.one("_", name, "A")+" = "+d.term(1))
		case 4, 5:
			eqs = append(eqs, name+" ="+d.term(0))
		default:
			eqs = append(eqs, name+"= "+d.term(3))
		}
	}
	if len(eqs) == 0 {
		return strings.Join(roots, ",")
	}
	return strings.Join(roots, " , ") + " where " + strings.Join(eqs, ", ")
}

func (d *dice) term(deep int) string {
	var parts []string
	for range 1 + d.below(3) {
		if deep > 0 {
			parts = append(parts, d.term(deep-1))
		}
	}
	if deep == 0 || d.below(3) == 0 {
		return d.one("A", "B", "C", "D", "E", "E1", "V1", "_", "a", "where", "[]", "'V1'", "0", "-3", "F")
	}
	switch d.below(4) {
	case 0:
		return "[" + strings.Join(parts, ", ") + "]"
	case 1:
		return "[" + strings.Join(parts, ",") + " | " + d.term(deep-1) + "]"
	}
	return d.one("f", "f", "g", "'.'", "'[]'", "'E1'", "co") + "(" + strings.Join(parts, " ,") + ")"
}

// P9.1, P9.4: scattered texts, some of them with a byte that spoils them.
func TestManyTexts(t *testing.T) {
	taken, untied, unread := 0, 0, 0
	for seed := range 10000 {
		d := dice(seed)
		s := d.source()
		if d.below(3) == 0 {
			at := d.below(len(s) + 1)
			s = s[:at] + d.one("", "(", "]", " where ", "=", "'", "\x00", ",", "X", "a b", "|") + s[min(len(s), at+d.below(2)):]
		}
		x, err := parse.Terms(s)
		if err != nil {
			wantRead(t, s, err.(*api.Fault).At, err.(*api.Fault))
			unread++
			continue
		}
		want, err := tie.Read(x)
		if err != nil {
			wantRead(t, s, err.(*api.Fault).At, err.(*api.Fault))
			untied++
			continue
		}
		taken++
		g, err := show.Read(s)
		if err != nil || !graph.Same(g, want) {
			t.Fatalf("%s is read as %s, %v, want %s", s, telling(g), err, telling(want))
		}
		wantText(t, g, textOf(g))
	}
	if taken < 3000 || untied < 1000 || unread < 1000 {
		t.Errorf("%d taken, %d that can't be tied, %d that can't be read", taken, untied, unread)
	}
}

// P9.1 to P9.3: great graphs of scattered nodes, told and, where that can be, read again.
func TestGreat(t *testing.T) {
	for seed, count := range []int{most, most, most / 2, most / 8, most / 8, 100} {
		d := dice(seed)
		var g api.Graph
		for i := range count {
			// Each of a name of its own, but for some, so that most are unlike.
			m := d.node(count)
			if m.Kind == kComp {
				m.Name = "f" + strconv.Itoa(i/2)
			}
			g.Nodes = append(g.Nodes, m)
		}
		for range most {
			g.Roots = append(g.Roots, d.below(count))
		}
		if seed%2 == 1 {
			g.Roots = g.Roots[:5]
		}
		wantText(t, g, textOf(g))
	}
}
