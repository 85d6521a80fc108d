package store_test

import (
	"slices"
	"strconv"

	"tendril/api"
	"tendril/cells"
	"tendril/solve"
	"tendril/store"
	"tendril/unify"
)

// Words are spelt here as numbers, apart from package word: a value times 8, and the tag.
const (
	tagRef  = 0
	tagAtom = 1
	tagInt  = 2
	tagStr  = 3
	tagFun  = 4
	tagFwd  = 5
)

func tagOf(w uint64) int   { return int(w % 8) }
func valueOf(w uint64) int { return int(int64(w) >> 3) }

// laidOpen is a store as its dump tells it, read by the words of chapter 11.
type laidOpen struct{ api.Dump }

func (m laidOpen) cell(at int) bool {
	return at >= 0 && at < len(m.Words) && tagOf(m.Words[at]) <= tagStr
}

func (m laidOpen) cells() []int {
	var out []int
	for at := range m.Words {
		if m.cell(at) {
			out = append(out, at)
		}
	}
	return out
}

// strangers are places that are no cells': functors and forwards, and such where nothing is allocated.
func (m laidOpen) strangers() []int {
	out := []int{-1, -2, len(m.Words), len(m.Words) + 1}
	for at := range m.Words {
		if !m.cell(at) {
			out = append(out, at)
		}
	}
	return out
}

// thing is what a cell holds: the place of a free variable or of a functor, the number of a name, or an integer.
type thing struct{ kind, value int }

func (m laidOpen) held(at int) thing {
	value := valueOf(m.Words[at])
	switch tagOf(m.Words[at]) {
	case tagAtom:
		return thing{kAtom, value}
	case tagInt:
		return thing{kInt, value}
	case tagStr:
		for tagOf(m.Words[value]) == tagFwd {
			value = valueOf(m.Words[value])
		}
		return thing{kComp, value}
	}
	if value == at {
		return thing{kVar, at}
	}
	return m.held(value)
}

// graph is what cells hold, as it stands there: its roots are the cells, and each free variable and each place of a compound is a node.
func (m laidOpen) graph(cells ...int) api.Graph {
	var out api.Graph
	place := map[thing]int{}
	var todo []thing
	meet := func(at int) int {
		x := m.held(at)
		if _, ok := place[x]; !ok {
			place[x] = len(todo)
			todo = append(todo, x)
		}
		return place[x]
	}
	for _, at := range cells {
		out.Roots = append(out.Roots, meet(at))
	}
	for i := 0; i < len(todo); i++ {
		node := api.Node{Kind: todo[i].kind}
		switch value := todo[i].value; node.Kind {
		case kAtom:
			node.Name = m.Names[value]
		case kInt:
			node.Num = value
		case kComp:
			fun := valueOf(m.Words[value])
			node.Name = m.Names[fun/16]
			for k := range fun % 16 {
				node.Args = append(node.Args, meet(value+1+k))
			}
		}
		out.Nodes = append(out.Nodes, node)
	}
	return out
}

// verdict is the kind of the verdict of two cells: whether they are one is asked by their unfolding, whether they can be by what would have to be one.
func (m laidOpen) verdict(one, other int) int {
	g := m.graph(one, other)
	if oneTree(g.Nodes, g.Roots[0], g.Roots[1]) {
		return isSame
	}
	if !canBeOne(g.Nodes, g.Roots[0], g.Roots[1]) {
		return isApart
	}
	return isOpen
}

// oneTree tells whether two nodes unfold to one tree: both are gone through at once, each pair that is met once.
func oneTree(list []api.Node, one, other int) bool {
	todo := [][2]int{{one, other}}
	met := map[[2]int]bool{todo[0]: true}
	for i := 0; i < len(todo); i++ {
		x, y := list[todo[i][0]], list[todo[i][1]]
		if x.Kind == kVar && todo[i][0] != todo[i][1] || !sameHead(x, y) {
			return false
		}
		for at := range x.Args {
			if pair := [2]int{x.Args[at], y.Args[at]}; !met[pair] {
				met[pair] = true
				todo = append(todo, pair)
			}
		}
	}
	return true
}

func sameHead(x, y api.Node) bool {
	return x.Kind == y.Kind && x.Name == y.Name && x.Num == y.Num && len(x.Args) == len(y.Args)
}

// canBeOne tells whether two nodes can be one: the classes of what must be one are put together, and of each class one node that is no variable stands for it.
func canBeOne(list []api.Node, one, other int) bool {
	class := make([]int, len(list))
	for i := range class {
		class[i] = i
	}
	todo := [][2]int{{one, other}}
	for len(todo) > 0 {
		i, j := class[todo[0][0]], class[todo[0][1]]
		todo = todo[1:]
		if i == j {
			continue
		}
		if list[i].Kind == kVar {
			i, j = j, i
		}
		if list[j].Kind != kVar {
			if !sameHead(list[i], list[j]) {
				return false
			}
			for at := range list[i].Args {
				todo = append(todo, [2]int{list[i].Args[at], list[j].Args[at]})
			}
		}
		for k := range class {
			if class[k] == j {
				class[k] = i
			}
		}
	}
	return true
}

// unsound is what P11.3 says of the words and isn't so, or the empty text.
func (m laidOpen) unsound() string {
	tag := func(at int) int {
		if at < 0 || at >= len(m.Words) {
			return -1
		}
		return tagOf(m.Words[at])
	}
	for at, w := range m.Words {
		value, ok := valueOf(w), false
		switch tagOf(w) {
		case tagRef:
			ok = m.cell(value)
		case tagAtom:
			ok = value >= 0 && value < len(m.Names)
		case tagInt:
			ok = value >= -great && value <= great
		case tagStr, tagFwd:
			ok = tag(value) == tagFun || tag(value) == tagFwd
		case tagFun:
			ok = value >= 0 && value/16 < len(m.Names) && value%16 >= 1 && value%16 <= widest
			for i := 1; i <= value%16; i++ {
				ok = ok && m.cell(at+i)
			}
		}
		if !ok {
			return "the word " + tell(w) + " at " + strconv.Itoa(at) + " may not stand there"
		}
	}
	for at := range m.Words {
		to := at
		for steps := 0; ; steps++ {
			if steps > len(m.Words) {
				return "following from " + strconv.Itoa(at) + " doesn't end"
			}
			w := m.Words[to]
			if t := tagOf(w); t != tagRef && t != tagFwd || valueOf(w) == to && t == tagRef {
				break
			}
			to = valueOf(w)
		}
	}
	return ""
}

// reaches is the places of the words that a word reaches which stands at a place.
func reaches(at int, w uint64) []int {
	value := valueOf(w)
	switch tagOf(w) {
	case tagRef, tagStr, tagFwd:
		return []int{value}
	case tagFun:
		var out []int
		for i := 1; i <= value%16; i++ {
			out = append(out, at+i)
		}
		return out
	}
	return nil
}

// reach is which words are reachable from places, now and by the trail.
func (m laidOpen) reach(places ...int) []bool {
	met := make([]bool, len(m.Words))
	var meet func(at int)
	meet = func(at int) {
		if met[at] {
			return
		}
		met[at] = true
		for _, to := range reaches(at, m.Words[at]) {
			meet(to)
		}
		for _, s := range m.Trail {
			if s.At == at {
				for _, to := range reaches(at, s.Old) {
					meet(to)
				}
			}
		}
	}
	for _, at := range places {
		meet(at)
	}
	return met
}

// difCells is the cells of the disequalities that are open, now and then at the points, in order.
func (m laidOpen) difCells() []int {
	var out []int
	for _, pair := range m.Difs {
		out = append(out, pair[0], pair[1])
	}
	for _, mark := range m.Marks {
		for _, pair := range mark.Difs {
			out = append(out, pair[0], pair[1])
		}
	}
	return out
}

// moment is what the model keeps of a point: the disequalities, and the words as they were, as long as nothing is slid.
type moment struct {
	difs  [][2]int
	words []uint64
}

// model is a store by the words of the chapter: a heap to which nothing is done but what the calls that were taken say, and the disequalities beside it. What may be told is asked of layer 10, without a trial.
type model struct {
	heap   *cells.Heap
	open   [][2]int
	points []moment
}

// refusal is what a fault tells: its number and place, and those of its cause.
type refusal struct{ code, at, cause, causeAt int }

func newModel(max int) *model {
	h, err := cells.New(max)
	if err != nil {
		panic(err)
	}
	return &model{heap: h}
}

func (m *model) dump() api.Dump {
	out := m.heap.Dump()
	out.Difs = m.open
	for i, p := range m.points {
		out.Marks[i].Difs = p.difs
	}
	return out
}

// strange is the refusal of two places one of which is no cell's.
func (m *model) strange(one, other int) refusal {
	for i, at := range []int{one, other} {
		if !m.heap.Cell(at) {
			return refusal{errTell, i, errCell, i}
		}
	}
	return refusal{}
}

// tell is what Tell does. The disequalities are looked at in the graph that layer 10 makes of the equation.
func (m *model) tell(one, other int) (bool, refusal) {
	if no := m.strange(one, other); no != (refusal{}) {
		return false, no
	}
	roots := []int{one, other}
	for _, pair := range m.open {
		roots = append(roots, pair[0], pair[1])
	}
	g := laidOpen{m.heap.Dump()}.graph(roots...)
	g, ok, err := solve.Solve(g, [][2]int{{g.Roots[0], g.Roots[1]}})
	if err != nil {
		panic(err)
	}
	if !ok {
		return false, refusal{}
	}
	var open [][2]int
	for i, pair := range m.open {
		x, err := solve.Verdict(g, [][2]int{{g.Roots[2+2*i], g.Roots[3+2*i]}})
		if err != nil {
			panic(err)
		}
		if x.Kind == isSame {
			return false, refusal{}
		}
		if x.Kind == isOpen {
			open = append(open, pair)
		}
	}
	m.open = open
	if ok, err := unify.Unify(m.heap, one, other); !ok || err != nil {
		panic("layers 10 and 12 don't agree")
	}
	return true, refusal{}
}

// differ is what Differ does.
func (m *model) differ(one, other int) (bool, refusal) {
	if no := m.strange(one, other); no != (refusal{}) {
		return false, no
	}
	switch (laidOpen{m.heap.Dump()}).verdict(one, other) {
	case isSame:
		return false, refusal{}
	case isApart:
		return true, refusal{}
	}
	if len(m.open) == manyDifs {
		return false, refusal{errDifs, manyDifs, 0, 0}
	}
	m.open = append(slices.Clone(m.open), [2]int{one, other})
	return true, refusal{}
}

func (m *model) point() int {
	m.points = append(m.points, moment{slices.Clone(m.open), m.heap.Dump().Words})
	p, err := m.heap.Point()
	if err != nil {
		panic(err)
	}
	return p
}

func (m *model) undo(p int) refusal {
	if p < 0 || p >= len(m.points) {
		return refusal{errPoint, p, 0, 0}
	}
	m.open, m.points = slices.Clone(m.points[p].difs), m.points[:p+1]
	if err := m.heap.Undo(p); err != nil {
		panic(err)
	}
	if then := m.points[p].words; then != nil && !slices.Equal(m.heap.Dump().Words, then) {
		panic("the words aren't those of the point")
	}
	return refusal{}
}

func (m *model) release(p int) refusal {
	if p < 0 || p >= len(m.points) {
		return refusal{errPoint, p, 0, 0}
	}
	m.points = m.points[:p]
	if err := m.heap.Release(p); err != nil {
		panic(err)
	}
	return refusal{}
}

func (m *model) slide(keep []bool) ([]int, refusal) {
	if len(keep) != m.heap.Top() {
		return nil, refusal{errKeep, len(keep), 0, 0}
	}
	for _, at := range (laidOpen{m.dump()}).difCells() {
		if !keep[at] {
			return nil, refusal{errKeep, at, 0, 0}
		}
	}
	to, err := m.heap.Slide(keep)
	if err != nil {
		f := err.(*api.Fault)
		return nil, refusal{int(f.Code), f.At, 0, 0}
	}
	anew := func(list [][2]int) [][2]int {
		var out [][2]int
		for _, pair := range list {
			out = append(out, [2]int{to[pair[0]], to[pair[1]]})
		}
		return out
	}
	m.open = anew(m.open)
	for i, p := range m.points {
		m.points[i] = moment{difs: anew(p.difs)}
	}
	return to, refusal{}
}

// is tells whether an error is the fault that a refusal tells; the zero one stands for none.
func (no refusal) is(err error) bool {
	switch {
	case no.code == 0:
		return err == nil
	case no.cause == 0:
		return isFault(err, no.code, no.at)
	}
	return isCaused(err, no.code, no.at, no.cause, no.causeAt)
}

// dice is a row of numbers that look scattered, and are the same each time.
type dice uint64

func (d *dice) below(n int) int {
	*d = *d*6364136223846793005 + 1442695040888963407
	x := uint64(*d)
	x ^= x >> 29
	x *= 0xbf58476d1ce4e5b9
	x ^= x >> 32
	return int(x % uint64(n))
}

func (d *dice) one(list ...string) string { return list[d.below(len(list))] }

// among is one of a list that isn't empty.
func (d *dice) among(list []int) int { return list[d.below(len(list))] }

// node is a node of a graph of so many; of few names, so that often two can be one.
func (d *dice) node(count int) api.Node {
	switch d.below(12) {
	case 0, 1, 2, 3, 4:
		return v()
	case 5:
		return a(d.one("a", "a", "b", "f"))
	case 6:
		return n(d.below(2))
	case 7:
		return c(d.one("f", "g"), d.below(count))
	case 8:
		out := c(d.one("f", "g", "h"))
		for range 1 + d.below(widest) {
			out.Args = append(out.Args, d.below(count))
		}
		return out
	}
	return c("f", d.below(count), d.below(count))
}

// graph is a good graph of at most so many nodes, with roots.
func (d *dice) graph(most int) api.Graph {
	var g api.Graph
	count := 1 + d.below(most)
	for range count {
		g.Nodes = append(g.Nodes, d.node(count))
	}
	for range 1 + d.below(4) {
		g.Roots = append(g.Roots, d.below(count))
	}
	return g
}

// holding is a cell that mostly holds a term of a kind.
func (d *dice) holding(m laidOpen, kind int) int {
	all := m.cells()
	for range 8 {
		if at := d.among(all); m.held(at).kind == kind {
			return at
		}
	}
	return d.among(all)
}

// pair is two cells: any, or a variable and any, or two compounds that are mostly of one functor.
func (d *dice) pair(m laidOpen) (int, int) {
	all := m.cells()
	switch d.below(4) {
	case 0:
		return d.among(all), d.among(all)
	case 1:
		return d.holding(m, kVar), d.among(all)
	case 2:
		return d.holding(m, kVar), d.holding(m, kVar)
	}
	one, other := d.holding(m, kComp), d.holding(m, kComp)
	for range 20 {
		x, y := m.held(one), m.held(other)
		if x.kind == kComp && y.kind == kComp && x != y && m.Words[x.value] == m.Words[y.value] {
			break
		}
		one, other = d.holding(m, kComp), d.holding(m, kComp)
	}
	return one, other
}

// kept is a list for Slide: mostly of what is reachable from the disequalities and from some cells; now and then one entry is another, or one is missing or too many.
func (d *dice) kept(m laidOpen) []bool {
	var roots []int
	for _, at := range m.cells() {
		if d.below(3) == 0 {
			roots = append(roots, at)
		}
	}
	if d.below(6) > 0 {
		roots = append(roots, m.difCells()...)
	}
	out := m.reach(roots...)
	if len(out) > 0 && d.below(6) == 0 {
		at := d.below(len(out))
		out[at] = !out[at]
	}
	switch d.below(20) {
	case 0:
		out = append(out, true)
	case 1:
		out = out[:max(0, len(out)-1)]
	}
	return out
}

func dumped(s *store.Store) laidOpen { return laidOpen{s.Dump()} }
