package tie_test

import (
	"maps"
	"slices"
	"strconv"
	"strings"

	"tendril/api"
)

// oracle is what the chapter says of terms, found by its words: parts are told by texts that say where they are written, variables by what makes them one.
type oracle struct {
	rights map[string]api.Expr
	labels map[string]string   // of each thing that is meant
	nodes  map[string]api.Node // without arguments
	args   map[string][]string
}

// stands is what a name stands for.
func (o *oracle) stands(name string) string {
	var way []string
	for {
		if at := slices.Index(way, name); at >= 0 {
			return o.variable("circle " + slices.Min(way[at:]))
		}
		way = append(way, name)
		right, ok := o.rights[name]
		if !ok {
			return o.variable("name " + name)
		}
		if right.Kind != kVar || right.Name == "_" {
			return o.means("right "+name, right)
		}
		name = right.Name
	}
}

func (o *oracle) variable(thing string) string {
	o.labels[thing], o.nodes[thing] = thing, api.Node{Kind: kVar}
	return thing
}

// means is what a part means that is written at a place.
func (o *oracle) means(place string, e api.Expr) string {
	if e.Kind == kVar && e.Name == "_" {
		return o.variable("apart " + place)
	}
	if e.Kind == kVar {
		return o.stands(e.Name)
	}
	if _, known := o.labels[place]; known {
		return place
	}
	o.labels[place] = strconv.Itoa(e.Kind) + strconv.Quote(e.Name) + strconv.Itoa(e.Num) + "/" + strconv.Itoa(len(e.Args))
	o.nodes[place] = api.Node{Kind: e.Kind, Name: e.Name, Num: e.Num}
	for i, x := range e.Args {
		o.args[place] = append(o.args[place], o.means(place+"."+strconv.Itoa(i), x))
	}
	return place
}

// classes is the class of each thing, by trees that are cut off deeper and deeper.
func (o *oracle) classes() map[string]int {
	things := slices.Sorted(maps.Keys(o.labels))
	now := map[string]int{}
	for count := 0; ; {
		known, next := map[string]int{}, map[string]int{}
		for _, thing := range things {
			key := o.labels[thing]
			for _, x := range o.args[thing] {
				key += " " + strconv.Itoa(now[x])
			}
			if _, ok := known[key]; !ok {
				known[key] = len(known)
			}
			next[thing] = known[key]
		}
		now = next
		if len(known) == count {
			return now
		}
		count = len(known)
	}
}

// tied is what Tie must answer of terms that it takes.
func tied(x api.Terms) (api.Graph, []api.Named) {
	o := &oracle{rights: map[string]api.Expr{}, labels: map[string]string{}, nodes: map[string]api.Node{}, args: map[string][]string{}}
	for _, q := range x.Eqs {
		o.rights[q.Name] = q.Right
	}
	var roots []string
	for i, e := range x.Roots {
		roots = append(roots, o.means("term "+strconv.Itoa(i), e))
	}
	stand := map[string]string{}
	order := occurring(x)
	for _, name := range order {
		stand[name] = o.stands(name)
	}
	classes := o.classes()
	var g api.Graph
	place := map[int]int{}
	var meet func(thing string) int
	meet = func(thing string) int {
		class := classes[thing]
		if at, ok := place[class]; ok {
			return at
		}
		at := len(g.Nodes)
		place[class] = at
		g.Nodes = append(g.Nodes, o.nodes[thing])
		for _, arg := range o.args[thing] {
			to := meet(arg)
			g.Nodes[at].Args = append(g.Nodes[at].Args, to)
		}
		return at
	}
	for _, r := range roots {
		g.Roots = append(g.Roots, meet(r))
	}
	var names []api.Named
	for _, name := range order {
		if at, ok := place[classes[stand[name]]]; ok {
			names = append(names, api.Named{Name: name, Node: at})
		}
	}
	return g, names
}

// occurring is the names but _ in the order in which they occur for the first time.
func occurring(x api.Terms) []string {
	var all []string
	var in func(e api.Expr)
	in = func(e api.Expr) {
		if e.Kind == kVar {
			all = append(all, e.Name)
		}
		for _, y := range e.Args {
			in(y)
		}
	}
	for _, e := range x.Roots {
		in(e)
	}
	for _, q := range x.Eqs {
		all = append(all, q.Name)
		in(q.Right)
	}
	var out []string
	for _, name := range all {
		if name != "_" && !slices.Contains(out, name) {
			out = append(out, name)
		}
	}
	return out
}

// dice is a row of numbers that look scattered, and are the same each time.
type dice uint64

func (d *dice) below(n int) int {
	*d = *d*6364136223846793005 + 1442695040888963407
	x := uint64(*d)
	x ^= x >> 29
	x *= 0xbf58476d1ce4e5b9
	x ^= x >> 32
	return int(x % uint64(n))
}

func (d *dice) one(list ...string) string { return list[d.below(len(list))] }

// name is one of few names.
func (d *dice) name(few int) string { return string(rune('A' + d.below(few))) }

// expr is a term, not too deep, over few names.
func (d *dice) expr(deep, few int) api.Expr {
	switch k := d.below(10); {
	case k < 4 && deep > 0:
		e := c(d.one("f", "f", "g", "."))
		for range 1 + d.below(d.below(3)+1) + d.below(2) {
			e.Args = append(e.Args, d.expr(deep-1, few))
		}
		return e
	case k == 4:
		return a(d.one("a", "b", "f", "X"))
	case k == 5:
		return n(d.below(3) - 1)
	case k == 6:
		return v("_")
	}
	return v(d.name(few))
}

// shuffled is equations in another order.
func (d *dice) shuffled(eqs []api.Eq) []api.Eq {
	out := slices.Clone(eqs)
	for i := range out {
		j := d.below(i + 1)
		out[i], out[j] = out[j], out[i]
	}
	return out
}

// terms is terms with equations that are taken.
func (d *dice) terms() api.Terms {
	var x api.Terms
	few := 1 + d.below(8)
	for range d.below(5) {
		x.Roots = append(x.Roots, d.expr(d.below(4), few))
	}
	for i := range few {
		switch name := string(rune('A' + i)); d.below(6) {
		case 0:
		case 1, 2:
			x.Eqs = append(x.Eqs, eq(name, v(d.name(few))))
		default:
			x.Eqs = append(x.Eqs, eq(name, d.expr(1+d.below(3), few)))
		}
	}
	x.Eqs = d.shuffled(x.Eqs)
	return x
}

// holds tells whether a variable of this name stands in a term.
func holds(e api.Expr, name string) bool {
	return e.Kind == kVar && e.Name == name || slices.ContainsFunc(e.Args, func(x api.Expr) bool { return holds(x, name) })
}

// renamed is a term with other names, by a table; _ stays.
func renamed(e api.Expr, table map[string]string) api.Expr {
	if e.Kind == kVar && e.Name != "_" {
		e.Name = table[e.Name]
	}
	args := e.Args
	e.Args = nil
	for _, x := range args {
		e.Args = append(e.Args, renamed(x, table))
	}
	return e
}

func renamedTerms(x api.Terms, table map[string]string) api.Terms {
	var out api.Terms
	for _, e := range x.Roots {
		out.Roots = append(out.Roots, renamed(e, table))
	}
	for _, q := range x.Eqs {
		out.Eqs = append(out.Eqs, eq(table[q.Name], renamed(q.Right, table)))
	}
	return out
}

// table is other names for some, one to one: the same ones in another order, or new ones that may look like _.
func (d *dice) table(names []string) map[string]string {
	to := slices.Clone(names)
	switch d.below(3) {
	case 0:
		for i := range to {
			j := d.below(i + 1)
			to[i], to[j] = to[j], to[i]
		}
	case 1:
		for i := range to {
			to[i] = "_" + strings.Repeat("_", i)
			if i == 0 {
				to[i] = "_0"
			}
		}
	case 2:
		for i := range to {
			to[i] = "Z" + strconv.Itoa(len(to)-i)
		}
	}
	out := map[string]string{}
	for i, name := range names {
		out[name] = to[i]
	}
	return out
}
