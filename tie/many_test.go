package tie_test

import (
	"slices"
	"strconv"
	"strings"
	"testing"

	"tendril/api"
	"tendril/tie"
)

// wantAll stops the test unless each promise holds of terms that are taken.
func wantAll(t *testing.T, d *dice, x api.Terms) {
	t.Helper()
	g, names := tied(x)
	wantTied(t, x, g, names)
	wantRights(t, x)
	wantOtherNames(t, d, x)
	wantOtherOrder(t, d, x)
	wantMoreEquations(t, d, x)
}

// wantRights stops the test unless each name with an equation is what its right side means (P8.2).
func wantRights(t *testing.T, x api.Terms) {
	t.Helper()
	if slices.ContainsFunc(x.Eqs, func(q api.Eq) bool { return holds(q.Right, "_") }) {
		return
	}
	roots := slices.Clone(x.Roots)
	for _, q := range x.Eqs {
		roots = append(roots, v(q.Name), q.Right)
	}
	g, names, err := tie.Tie(roots, x.Eqs)
	if err != nil {
		t.Fatalf("%s: %v", text(x), err)
	}
	for i, q := range x.Eqs {
		left, right := g.Roots[len(x.Roots)+2*i], g.Roots[len(x.Roots)+2*i+1]
		if left != right || !slices.Contains(names, api.Named{Name: q.Name, Node: left}) {
			t.Fatalf("%s: %s is %d, its right side %d; %v", text(x), q.Name, left, right, names)
		}
	}
}

// wantOtherNames stops the test unless other names, one to one, change nothing but the names (P8.3).
func wantOtherNames(t *testing.T, d *dice, x api.Terms) {
	t.Helper()
	g, names, _ := tie.Tie(x.Roots, x.Eqs)
	table := d.table(occurring(x))
	for i, name := range names {
		names[i].Name = table[name.Name]
	}
	wantTied(t, renamedTerms(x, table), g, names)
}

// wantOtherOrder stops the test unless another order of the equations changes nothing but the order of the names (P8.3).
func wantOtherOrder(t *testing.T, d *dice, x api.Terms) {
	t.Helper()
	g, names, _ := tie.Tie(x.Roots, x.Eqs)
	for range 2 {
		other := terms(x.Roots, d.shuffled(x.Eqs))
		h, told, err := tie.Tie(other.Roots, other.Eqs)
		if err != nil || telling(g, byName(names)) != telling(h, byName(told)) {
			t.Fatalf("%s:\n%s, %v, and with the equations in another order\n%s", text(other), telling(h, told), err, telling(g, names))
		}
	}
}

func byName(list []api.Named) []api.Named {
	return slices.SortedFunc(slices.Values(list), func(a, b api.Named) int { return strings.Compare(a.Name, b.Name) })
}

// wantMoreEquations stops the test unless equations of names that don't occur elsewhere change nothing in the graph, nor of the names (P8.3).
func wantMoreEquations(t *testing.T, d *dice, x api.Terms) {
	t.Helper()
	g, names, _ := tie.Tie(x.Roots, x.Eqs)
	more := slices.Clone(x.Eqs)
	for i := range 1 + d.below(3) {
		fresh := "Fresh" + strconv.Itoa(i)
		right := d.expr(2, 8)
		if d.below(3) == 0 {
			right = c("f", v(fresh), right)
		}
		more = slices.Insert(more, d.below(len(more)+1), eq(fresh, right))
	}
	other := terms(x.Roots, more)
	h, told, err := tie.Tie(other.Roots, other.Eqs)
	if err != nil || telling(g, nil) != telling(h, nil) {
		t.Fatalf("%s:\n%s, %v, and without those equations\n%s", text(other), telling(h, nil), err, telling(g, nil))
	}
	for _, name := range names {
		if !slices.Contains(told, name) {
			t.Fatalf("%s: %v isn't told any more: %v", text(other), name, told)
		}
	}
	want, list := tied(other)
	wantTied(t, other, want, list)
}

// P8.1 to P8.3: scattered terms with equations.
func TestManyTied(t *testing.T) {
	fewer, wider, told := 0, 0, 0
	for seed := range 10000 {
		d := dice(seed)
		x := d.terms()
		wantAll(t, &d, x)
		g, names := tied(x)
		if len(g.Nodes) > 4 {
			wider++
		}
		if len(names) < len(occurring(x)) {
			fewer++
		}
		told += len(names)
	}
	if fewer < 1000 || wider < 1000 || told < 10000 {
		t.Errorf("%d with names that aren't told, %d with more than four nodes, %d names", fewer, wider, told)
	}
}

// P8.1 to P8.3: all systems of three names and small right sides, under each of some terms.
func TestAllSmall(t *testing.T) {
	rights := []string{"", "X", "Y", "Z", "_", "a", "f(X)", "f(Y)", "f(Z)", "f(a)", "f(_)", "g(X, Y)", "g(Y, Z)", "f(f(X))", "W"}
	var list []api.Terms
	for _, roots := range []string{"X", "X, Y, Z", "f(X)", "g(Z, Y), f(a)"} {
		list = append(list, written(roots))
	}
	for i := range len(rights) * len(rights) * len(rights) {
		var eqs []api.Eq
		for name, at := range map[string]int{"X": i % len(rights), "Y": i / len(rights) % len(rights), "Z": i / len(rights) / len(rights)} {
			if rights[at] != "" {
				eqs = append(eqs, eq(name, written(rights[at]).Roots[0]))
			}
		}
		slices.SortFunc(eqs, func(a, b api.Eq) int { return strings.Compare(a.Name, b.Name) })
		for j, x := range list {
			d := dice(i*len(list) + j)
			x.Eqs = eqs
			wantAll(t, &d, x)
		}
	}
}

// P8.1: names that lead to one another over long ways, in each order of the equations, end in time.
func TestLongWays(t *testing.T) {
	d := dice(7)
	// Half of what is counted leads from name to name, the other half asks for names, eight each.
	const count = most/2 - 1
	for _, last := range []api.Expr{v(named(0)), v(named(count / 2)), v(named(count)), v("_"), a("a")} {
		var eqs []api.Eq
		for i := range count {
			eqs = append(eqs, eq(named(i), v(named(i+1))))
		}
		eqs = append(eqs, eq(named(count), last))
		back := slices.Clone(eqs)
		slices.Reverse(back)
		var roots []api.Expr
		for i := range most/2 - 1 {
			e := c("f")
			for k := range widest {
				e.Args = append(e.Args, v(named((i*widest+k)%(count+1))))
			}
			roots = append(roots, e)
		}
		for _, list := range [][]api.Eq{eqs, back, d.shuffled(eqs)} {
			g, names, err := tie.Tie(roots, list)
			if err != nil || len(g.Nodes) != 2 || len(g.Roots) != len(roots) || len(names) != count+1 {
				t.Fatalf("%d nodes, %d roots, %d names, %v", len(g.Nodes), len(g.Roots), len(names), err)
			}
			if node := g.Nodes[0]; node.Name != "f" || !slices.Equal(node.Args, []int{1, 1, 1, 1, 1, 1, 1, 1}) || slices.Max(g.Roots) > 0 {
				t.Fatal(node, g.Roots)
			}
			for _, x := range names {
				if x.Node != 1 {
					t.Fatal(x)
				}
			}
		}
	}
}

// P8.1: great systems: compounds that hold one another, tied to few nodes and to many.
func TestGreatSystems(t *testing.T) {
	for _, step := range []int{1, 2, 7, 64, 1024} {
		const count = most / 2
		var eqs []api.Eq
		for i := range count {
			name := "f"
			if i%step == 0 {
				name = "g"
			}
			eqs = append(eqs, eq(named(i), c(name, v(named((i+1)%count)), v(named((i+1)%count)))))
		}
		x := terms([]api.Expr{v(named(0))}, eqs)
		// What repeats does so after step compounds, where this goes round without a rest.
		size := step
		if count%step != 0 {
			size = count
		}
		g, names, err := tie.Tie(x.Roots, x.Eqs)
		if err != nil || len(g.Nodes) != size || len(names) != count {
			t.Fatalf("%d nodes, %d names, %v", len(g.Nodes), len(names), err)
		}
		for _, name := range names {
			if i := number(name.Name[1:]); name.Node != i%size {
				t.Fatal(name)
			}
		}
		for i, m := range g.Nodes {
			if !slices.Equal(m.Args, []int{(i + 1) % size, (i + 1) % size}) || (m.Name == "g") != (i%step == 0) {
				t.Fatal(i, m)
			}
		}
		d := dice(step)
		other := d.shuffled(eqs)
		if h, err := tie.Read(terms(x.Roots, other)); err != nil || telling(h, nil) != telling(g, nil) {
			t.Fatal("another graph with the equations in another order", err)
		}
	}
}
