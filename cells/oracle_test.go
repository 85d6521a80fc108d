package cells_test

import (
	"slices"
	"strconv"

	"tendril/api"
)

// Words are spelt here as numbers, apart from package word: a value times 8, and the tag.
const (
	tagRef  = 0
	tagAtom = 1
	tagInt  = 2
	tagStr  = 3
	tagFun  = 4
	tagFwd  = 5
)

func packed(tag, value int) uint64 { return uint64(value)*8 + uint64(tag) }
func tagOf(w uint64) int           { return int(w % 8) }
func valueOf(w uint64) int         { return int(int64(w) >> 3) }

// refusal is what a fault tells: its number and place; of its cause likewise, and the name. The zero one says that there is no fault.
type refusal struct {
	code, at       int
	cause, causeAt int
	name           string
}

func refused(code, at int) refusal { return refusal{code: code, at: at} }

// moment is what a point keeps, with all words as they were.
type moment struct {
	trail int
	words []uint64
}

// model is a heap by the words of the chapter.
type model struct {
	max    int
	words  []uint64
	names  []string
	trail  []api.Saved
	points []moment
	writes int
}

func (m *model) copied() *model {
	out := *m
	out.words, out.names, out.trail = slices.Clone(m.words), slices.Clone(m.names), slices.Clone(m.trail)
	out.points = nil
	for _, p := range m.points {
		out.points = append(out.points, moment{p.trail, slices.Clone(p.words)})
	}
	return &out
}

func (m *model) cell(at int) bool {
	return at >= 0 && at < len(m.words) && tagOf(m.words[at]) <= tagStr
}

func (m *model) cells() []int {
	var out []int
	for at := range m.words {
		if m.cell(at) {
			out = append(out, at)
		}
	}
	return out
}

// noCell is the refusal of places one of which is no cell's.
func (m *model) noCell(places ...int) refusal {
	for i, at := range places {
		if !m.cell(at) {
			return refused(errCell, i)
		}
	}
	return refusal{}
}

// thing is what a cell holds: the place of a free variable or of a functor, the number of a name, or an integer.
type thing struct{ kind, value int }

func (m *model) held(at int) thing {
	value := valueOf(m.words[at])
	switch tagOf(m.words[at]) {
	case tagAtom:
		return thing{kAtom, value}
	case tagInt:
		return thing{kInt, value}
	case tagStr:
		return thing{kComp, m.functor(value)}
	}
	if value == at {
		return thing{kVar, at}
	}
	return m.held(value)
}

// functor is where the functor stands to which one comes from a place, all forwards gone.
func (m *model) functor(at int) int {
	if tagOf(m.words[at]) == tagFwd {
		return m.functor(valueOf(m.words[at]))
	}
	return at
}

// args is the places of the arguments of a functor.
func (m *model) args(at int) []int {
	var out []int
	for i := 1; i <= valueOf(m.words[at])%16; i++ {
		out = append(out, at+i)
	}
	return out
}

func (m *model) look(at int) api.Cell {
	x := m.held(at)
	switch x.kind {
	case kAtom:
		return api.Cell{Kind: kAtom, At: -1, Name: m.names[x.value]}
	case kInt:
		return api.Cell{Kind: kInt, At: -1, Num: x.value}
	case kComp:
		return api.Cell{Kind: kComp, At: x.value, Name: m.names[valueOf(m.words[x.value])/16], Args: m.args(x.value)}
	}
	return api.Cell{Kind: kVar, At: x.value}
}

// get is the graph of what cells hold, as they stand there, and the least one.
func (m *model) get(cells ...int) (whole, least api.Graph) {
	place := map[thing]int{}
	var meet func(at int) int
	meet = func(at int) int {
		x := m.held(at)
		if i, ok := place[x]; ok {
			return i
		}
		i, saw := len(whole.Nodes), m.look(at)
		place[x] = i
		whole.Nodes = append(whole.Nodes, api.Node{Kind: saw.Kind, Name: saw.Name, Num: saw.Num})
		for _, arg := range saw.Args {
			to := meet(arg)
			whole.Nodes[i].Args = append(whole.Nodes[i].Args, to)
		}
		return i
	}
	for _, at := range cells {
		whole.Roots = append(whole.Roots, meet(at))
	}
	return whole, leastOf(whole)
}

// reaches is the places of the words that a word reaches which stands at a place.
func reaches(at int, w uint64) []int {
	value := valueOf(w)
	switch tagOf(w) {
	case tagRef, tagStr, tagFwd:
		return []int{value}
	case tagFun:
		var out []int
		for i := 1; i <= value%16; i++ {
			out = append(out, at+i)
		}
		return out
	}
	return nil
}

// reach is the words that are reachable from places; with the trail's words, too, if they are asked for.
func (m *model) reach(trail bool, places ...int) []bool {
	met := make([]bool, len(m.words))
	var meet func(at int)
	meet = func(at int) {
		if met[at] {
			return
		}
		met[at] = true
		for _, to := range reaches(at, m.words[at]) {
			meet(to)
		}
		for _, s := range m.trail {
			if trail && s.At == at {
				for _, to := range reaches(at, s.Old) {
					meet(to)
				}
			}
		}
	}
	for _, at := range places {
		meet(at)
	}
	return met
}

// met is the nodes of a graph in the order of meeting.
func met(g api.Graph) []int {
	var out []int
	seen := map[int]bool{}
	var meet func(nodes []int)
	meet = func(nodes []int) {
		for _, i := range nodes {
			if !seen[i] {
				seen[i] = true
				out = append(out, i)
				meet(g.Nodes[i].Args)
			}
		}
	}
	meet(g.Roots)
	return out
}

// need is how many words a good graph wants.
func need(g api.Graph) int {
	count := len(g.Roots)
	for _, i := range met(g) {
		switch g.Nodes[i].Kind {
		case kVar:
			count++
		case kComp:
			count += 1 + len(g.Nodes[i].Args)
		}
	}
	return count
}

// put puts a good graph down.
func (m *model) put(g api.Graph) ([]int, refusal) {
	names := slices.Clone(m.names)
	for _, i := range met(g) {
		name := g.Nodes[i].Name
		if name == "" || slices.Contains(names, name) {
			continue
		}
		if len(names) == manyNames {
			return nil, refusal{errPut, -1, errNames, -1, name}
		}
		names = append(names, name)
	}
	if want := need(g); want > m.max-len(m.words) {
		return nil, refusal{errRoom, want, errFull, want, ""}
	}
	m.names = names
	var roots []int
	for i := range g.Roots {
		roots = append(roots, len(m.words)+i)
	}
	place, next := map[int]int{}, len(m.words)+len(roots)
	for _, i := range met(g) {
		place[i] = next
		switch g.Nodes[i].Kind {
		case kVar:
			next++
		case kComp:
			next += 1 + len(g.Nodes[i].Args)
		}
	}
	name := func(i int) int { return slices.Index(names, g.Nodes[i].Name) }
	cells := func(nodes []int) {
		for _, i := range nodes {
			m.words = append(m.words, map[int]uint64{kVar: packed(tagRef, place[i]), kAtom: packed(tagAtom, name(i)), kInt: packed(tagInt, g.Nodes[i].Num), kComp: packed(tagStr, place[i])}[g.Nodes[i].Kind])
		}
	}
	cells(g.Roots)
	for _, i := range met(g) {
		switch g.Nodes[i].Kind {
		case kVar:
			cells([]int{i})
		case kComp:
			m.words = append(m.words, packed(tagFun, name(i)*16+len(g.Nodes[i].Args)))
			cells(g.Nodes[i].Args)
		}
	}
	return roots, refusal{}
}

func (m *model) write(at int, w uint64) {
	m.writes++
	if count := len(m.points); count > 0 && at < len(m.points[count-1].words) {
		m.trail = append(m.trail, api.Saved{At: at, Old: m.words[at]})
	}
	m.words[at] = w
}

func (m *model) bind(a, b int) refusal {
	if no := m.noCell(a, b); no != (refusal{}) {
		return no
	}
	x, y := m.held(a), m.held(b)
	if x.kind != kVar {
		return refused(errBound, 0)
	}
	switch y.kind {
	case kAtom:
		m.write(x.value, packed(tagAtom, y.value))
	case kInt:
		m.write(x.value, packed(tagInt, y.value))
	case kComp:
		m.write(x.value, packed(tagStr, y.value))
	case kVar:
		if x.value > y.value {
			m.write(x.value, packed(tagRef, y.value))
		}
		if x.value < y.value {
			m.write(y.value, packed(tagRef, x.value))
		}
	}
	return refusal{}
}

func (m *model) merge(a, b int) refusal {
	if no := m.noCell(a, b); no != (refusal{}) {
		return no
	}
	x, y := m.held(a), m.held(b)
	if x.kind != kComp || y.kind != kComp || m.words[x.value] != m.words[y.value] {
		return refused(errMerge, -1)
	}
	if x.value > y.value {
		x, y = y, x
	}
	if x.value < y.value {
		m.write(y.value, packed(tagFwd, x.value))
	}
	return refusal{}
}

func (m *model) point() int {
	m.points = append(m.points, moment{len(m.trail), slices.Clone(m.words)})
	return len(m.points) - 1
}

func (m *model) undo(i int) refusal {
	if i < 0 || i >= len(m.points) {
		return refused(errPoint, i)
	}
	m.points = m.points[:i+1]
	m.words, m.trail = slices.Clone(m.points[i].words), m.trail[:m.points[i].trail]
	return refusal{}
}

func (m *model) release(i int) refusal {
	if i < 0 || i >= len(m.points) {
		return refused(errPoint, i)
	}
	m.points = m.points[:i]
	return refusal{}
}

// torn is the first place that is kept and reaches a word that isn't, now or as the trail has it; -1, if there is none.
func (m *model) torn(keep []bool) int {
	for at, kept := range keep {
		if !kept {
			continue
		}
		all := reaches(at, m.words[at])
		for _, s := range m.trail {
			if s.At == at {
				all = append(all, reaches(at, s.Old)...)
			}
		}
		for _, to := range all {
			if !keep[to] {
				return at
			}
		}
	}
	return -1
}

func (m *model) slide(keep []bool) ([]int, refusal) {
	if len(keep) != len(m.words) {
		return nil, refused(errKeep, len(keep))
	}
	if at := m.torn(keep); at >= 0 {
		return nil, refused(errKeep, at)
	}
	var to []int
	count := 0
	for _, kept := range keep {
		if kept {
			to = append(to, count)
			count++
		} else {
			to = append(to, -1)
		}
	}
	anew := func(w uint64) uint64 {
		switch tagOf(w) {
		case tagRef, tagStr, tagFwd:
			return packed(tagOf(w), to[valueOf(w)])
		}
		return w
	}
	slid := func(words []uint64) []uint64 {
		var out []uint64
		for at, w := range words {
			if keep[at] {
				out = append(out, anew(w))
			}
		}
		return out
	}
	m.words = slid(m.words)
	var trail []api.Saved
	ahead := []int{0}
	for _, s := range m.trail {
		if keep[s.At] {
			trail = append(trail, api.Saved{At: to[s.At], Old: anew(s.Old)})
		}
		ahead = append(ahead, len(trail))
	}
	m.trail = trail
	for i, p := range m.points {
		m.points[i] = moment{ahead[p.trail], slid(p.words)}
	}
	return to, refusal{}
}

func (m *model) dump() api.Dump {
	out := api.Dump{Words: m.words, Trail: m.trail, Names: m.names}
	for _, p := range m.points {
		out.Marks = append(out.Marks, api.Mark{Trail: p.trail, Top: len(p.words)})
	}
	return out
}

// unsound is what P11.3 says of the words of a heap and isn't so, or the empty text.
func unsound(d api.Dump) string {
	tag := func(at int) int {
		if at < 0 || at >= len(d.Words) {
			return -1
		}
		return tagOf(d.Words[at])
	}
	cell := func(at int) bool { return tag(at) >= tagRef && tag(at) <= tagStr }
	for at, w := range d.Words {
		value, ok := valueOf(w), false
		switch tagOf(w) {
		case tagRef:
			ok = cell(value)
		case tagAtom:
			ok = value >= 0 && value < len(d.Names)
		case tagInt:
			ok = value >= -great && value <= great
		case tagStr, tagFwd:
			ok = tag(value) == tagFun || tag(value) == tagFwd
		case tagFun:
			ok = value >= 0 && value/16 < len(d.Names) && value%16 >= 1 && value%16 <= widest
			for i := 1; i <= value%16; i++ {
				ok = ok && cell(at+i)
			}
		}
		if !ok {
			return "the word " + tell(w) + " at " + strconv.Itoa(at) + " may not stand there"
		}
	}
	for at := range d.Words {
		to := at
		for steps := 0; ; steps++ {
			if steps > len(d.Words) {
				return "following from " + strconv.Itoa(at) + " doesn't end"
			}
			w := d.Words[to]
			if t := tagOf(w); t != tagRef && t != tagFwd || valueOf(w) == to && t == tagRef {
				break
			}
			to = valueOf(w)
		}
	}
	return ""
}

// leastOf is the least graph of a good graph: nodes are parted by trees that are cut off deeper and deeper, and the classes are numbered as they are met.
func leastOf(g api.Graph) api.Graph {
	classes := classesOf(g.Nodes)
	var out api.Graph
	place := map[int]int{}
	var meet func(node int) int
	meet = func(node int) int {
		if at, ok := place[classes[node]]; ok {
			return at
		}
		m, at := g.Nodes[node], len(out.Nodes)
		place[classes[node]] = at
		out.Nodes = append(out.Nodes, api.Node{Kind: m.Kind, Name: m.Name, Num: m.Num})
		for _, arg := range m.Args {
			to := meet(arg)
			out.Nodes[at].Args = append(out.Nodes[at].Args, to)
		}
		return at
	}
	for _, r := range g.Roots {
		out.Roots = append(out.Roots, meet(r))
	}
	return out
}

// classesOf is for each node a number that it has in common with those that are alike to it.
func classesOf(list []api.Node) []int {
	now := make([]int, len(list))
	for count := 0; ; {
		known, next := map[string]int{}, make([]int, len(list))
		for i, m := range list {
			key := strconv.Itoa(m.Kind) + strconv.Quote(m.Name) + strconv.Itoa(m.Num)
			if m.Kind == kVar {
				key += "at " + strconv.Itoa(i)
			}
			for _, arg := range m.Args {
				key += " " + strconv.Itoa(now[arg])
			}
			if _, ok := known[key]; !ok {
				known[key] = len(known)
			}
			next[i] = known[key]
		}
		now = next
		if len(known) == count {
			return now
		}
		count = len(known)
	}
}

// dice is a row of numbers that look scattered, and are the same each time.
type dice uint64

func (d *dice) below(n int) int {
	*d = *d*6364136223846793005 + 1442695040888963407
	x := uint64(*d)
	x ^= x >> 29
	x *= 0xbf58476d1ce4e5b9
	x ^= x >> 32
	return int(x % uint64(n))
}

func (d *dice) one(list ...string) string { return list[d.below(len(list))] }

// node is a node of a graph of so many; of few names, so that often two compounds have one functor.
func (d *dice) node(count int) api.Node {
	switch d.below(12) {
	case 0, 1, 2, 3:
		return v()
	case 4:
		return a(d.one("a", "a", "b", "f"))
	case 5:
		return n(d.below(3) - 1)
	case 6:
		return c(d.one("f", "g"), d.below(count))
	case 7:
		out := c(d.one("f", "g", "h"))
		for range 1 + d.below(widest) {
			out.Args = append(out.Args, d.below(count))
		}
		return out
	}
	return c("f", d.below(count), d.below(count))
}

// graph is a good graph of at most so many nodes.
func (d *dice) graph(most int) api.Graph {
	var g api.Graph
	count := 1 + d.below(most)
	for range count {
		g.Nodes = append(g.Nodes, d.node(count))
	}
	for range d.below(4) {
		g.Roots = append(g.Roots, d.below(count))
	}
	return g
}
