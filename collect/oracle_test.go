package collect_test

import (
	"slices"
	"strconv"

	"tendril/api"
	"tendril/store"
)

// Words are spelt here as numbers, apart from package word: a value times 8, and the tag.
const (
	tagRef  = 0
	tagAtom = 1
	tagInt  = 2
	tagStr  = 3
	tagFun  = 4
	tagFwd  = 5
)

func tagOf(w uint64) int   { return int(w % 8) }
func valueOf(w uint64) int { return int(int64(w) >> 3) }

// tell is a word as text.
func tell(w uint64) string {
	value := valueOf(w)
	if tagOf(w) == tagFun {
		return "fun " + strconv.Itoa(value/16) + "/" + strconv.Itoa(value%16)
	}
	return []string{"ref ", "atom ", "int ", "str ", "fun ", "fwd ", "bad ", "bad "}[tagOf(w)] + strconv.Itoa(value)
}

// laidOpen is a store as its dump tells it, read by the words of chapters 11 and 15.
type laidOpen struct{ api.Dump }

func dumped(s *store.Store) laidOpen { return laidOpen{s.Dump()} }

func (m laidOpen) cell(at int) bool {
	return at >= 0 && at < len(m.Words) && tagOf(m.Words[at]) <= tagStr
}

func (m laidOpen) cells() []int {
	var out []int
	for at := range m.Words {
		if m.cell(at) {
			out = append(out, at)
		}
	}
	return out
}

// strangers are places that are no cells': functors and forwards, and such where nothing is allocated.
func (m laidOpen) strangers() []int {
	out := []int{-1, -2, len(m.Words), len(m.Words) + 1}
	for at := range m.Words {
		if !m.cell(at) {
			out = append(out, at)
		}
	}
	return out
}

// reaches is the places of the words that a word reaches which stands at a place.
func reaches(at int, w uint64) []int {
	value := valueOf(w)
	switch tagOf(w) {
	case tagRef, tagStr, tagFwd:
		return []int{value}
	case tagFun:
		var out []int
		for i := 1; i <= value%16; i++ {
			out = append(out, at+i)
		}
		return out
	}
	return nil
}

// wanted is the places of the words that are wanted, rising: the chapter's three sentences are gone through, as long as one of them has another word.
func (m laidOpen) wanted(roots []int) []int {
	set := make([]bool, len(m.Words))
	for _, at := range roots {
		set[at] = true
	}
	for _, list := range append([]api.Mark{{Difs: m.Difs}}, m.Marks...) {
		for _, pair := range list.Difs {
			set[pair[0]], set[pair[1]] = true, true
		}
	}
	for more := true; more; {
		more = false
		want := func(at int, w uint64) {
			for _, other := range reaches(at, w) {
				if set[at] && !set[other] {
					set[other], more = true, true
				}
			}
		}
		for at, w := range m.Words {
			want(at, w)
		}
		for _, s := range m.Trail {
			want(s.At, s.Old)
		}
	}
	var out []int
	for at, yes := range set {
		if yes {
			out = append(out, at)
		}
	}
	return out
}

// without is the store with just the words at these rising places, by what chapters 11 and 14 say of Slide.
func (m laidOpen) without(kept []int) laidOpen {
	anew := func(w uint64) uint64 {
		switch tag := tagOf(w); tag {
		case tagRef, tagStr, tagFwd:
			return uint64(slices.Index(kept, valueOf(w))*8 + tag)
		}
		return w
	}
	pairs := func(list [][2]int) [][2]int {
		var out [][2]int
		for _, pair := range list {
			out = append(out, [2]int{slices.Index(kept, pair[0]), slices.Index(kept, pair[1])})
		}
		return out
	}
	out := laidOpen{api.Dump{Names: m.Names, Difs: pairs(m.Difs)}}
	for _, at := range kept {
		out.Words = append(out.Words, anew(m.Words[at]))
	}
	lengths := []int{0}
	for _, s := range m.Trail {
		if at := slices.Index(kept, s.At); at >= 0 {
			out.Trail = append(out.Trail, api.Saved{At: at, Old: anew(s.Old)})
		}
		lengths = append(lengths, len(out.Trail))
	}
	for _, p := range m.Marks {
		top := 0
		for _, at := range kept {
			if at < p.Top {
				top++
			}
		}
		out.Marks = append(out.Marks, api.Mark{Trail: lengths[p.Trail], Top: top, Difs: pairs(p.Difs)})
	}
	return out
}

// unsound is what P11.3 says of the words and isn't so, or the empty text.
func (m laidOpen) unsound() string {
	tag := func(at int) int {
		if at < 0 || at >= len(m.Words) {
			return -1
		}
		return tagOf(m.Words[at])
	}
	for at, w := range m.Words {
		value, ok := valueOf(w), false
		switch tagOf(w) {
		case tagRef:
			ok = m.cell(value)
		case tagAtom:
			ok = value >= 0 && value < len(m.Names)
		case tagInt:
			ok = true
		case tagStr, tagFwd:
			ok = tag(value) == tagFun || tag(value) == tagFwd
		case tagFun:
			ok = value >= 0 && value/16 < len(m.Names) && value%16 >= 1 && value%16 <= widest
			for i := 1; i <= value%16; i++ {
				ok = ok && m.cell(at+i)
			}
		}
		if !ok {
			return "the word " + tell(w) + " at " + strconv.Itoa(at) + " may not stand there"
		}
	}
	for at := range m.Words {
		to := at
		for steps := 0; ; steps++ {
			if steps > len(m.Words) {
				return "following from " + strconv.Itoa(at) + " doesn't end"
			}
			w := m.Words[to]
			if t := tagOf(w); t != tagRef && t != tagFwd || valueOf(w) == to && t == tagRef {
				break
			}
			to = valueOf(w)
		}
	}
	return ""
}

// dice is a row of numbers that look scattered, and are the same each time.
type dice uint64

func (d *dice) below(n int) int {
	*d = *d*6364136223846793005 + 1442695040888963407
	x := uint64(*d)
	x ^= x >> 29
	x *= 0xbf58476d1ce4e5b9
	x ^= x >> 32
	return int(x % uint64(n))
}

func (d *dice) one(list ...string) string { return list[d.below(len(list))] }

// node is a node of a graph of so many; of few names, so that often two can be one.
func (d *dice) node(count int) api.Node {
	switch d.below(12) {
	case 0, 1, 2, 3, 4:
		return v()
	case 5:
		return a(d.one("a", "a", "b", "f"))
	case 6:
		return n(d.below(2))
	case 7:
		return c(d.one("f", "g"), d.below(count))
	case 8:
		out := c(d.one("f", "g", "h"))
		for range 1 + d.below(widest) {
			out.Args = append(out.Args, d.below(count))
		}
		return out
	}
	return c("f", d.below(count), d.below(count))
}

// graph is a good graph of at most so many nodes, with roots.
func (d *dice) graph(most int) api.Graph {
	var g api.Graph
	count := 1 + d.below(most)
	for range count {
		g.Nodes = append(g.Nodes, d.node(count))
	}
	for range 1 + d.below(4) {
		g.Roots = append(g.Roots, d.below(count))
	}
	return g
}

// some is some of a list, in any order, now and then one twice.
func (d *dice) some(list []int) []int {
	var out []int
	for range d.below(2 + min(len(list), 6)) {
		if len(list) > 0 {
			out = append(out, list[d.below(len(list))])
		}
	}
	return out
}
