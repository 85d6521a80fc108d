package arena_test

import (
	"math"
	"slices"
	"strconv"
	"testing"

	"tendril/api"
	"tendril/arena"
)

// The words of the tests are spelt as numbers, apart from package word: a value times 8, and the tag.
func of(tag, value int) uint64 { return uint64(value)*8 + uint64(tag) }

// mayStand is the chapter's rule, spelt out apart from the program.
func mayStand(w uint64, top int) bool {
	tag, value := w%8, int64(w)>>3
	switch tag {
	case 0, 3, 5:
		return 0 <= value && value <= 65535 && value < int64(top)
	case 1:
		return 0 <= value && value <= 1023
	case 2:
		return -1<<50 <= value && value <= 1<<50
	case 4:
		return 0 <= value && value/16 <= 1023 && 1 <= value%16 && value%16 <= 8
	}
	return false
}

// badWords are good for no arena, whatever is allocated.
func badWords() []uint64 {
	return []uint64{
		6, 7, 14, 15, math.MaxUint64, 1 << 63, 1<<63 + 5,
		of(0, -1), of(0, 65536), of(3, -1), of(3, 65536), of(5, -1), of(5, 65536),
		of(1, -1), of(1, 1024), of(2, -1<<50-1), of(2, 1<<50+1),
		of(4, 0), of(4, 9), of(4, 16), of(4, 1024*16+1), of(4, -15),
	}
}

// freeWords may stand in every arena, since they tell no place.
func freeWords() []uint64 {
	return []uint64{of(1, 0), of(1, 1023), of(2, 0), of(2, -1), of(2, 1<<50), of(2, -1<<50), of(2, 65536), of(4, 1), of(4, 1023*16+8)}
}

// model is an arena by the chapter's words.
type model struct {
	max   int
	words []uint64
}

// wantFault stops the test unless err is a bare fault of that code and place.
func wantFault(t *testing.T, call string, err error, code api.Errno, at int) {
	t.Helper()
	f, ok := err.(*api.Fault)
	if !ok || f == nil {
		t.Fatalf("%s: %v, want a fault of code %d at %d", call, err, code, at)
	}
	if f.Code != code || f.At != at || f.Name != "" || f.Cause != nil {
		t.Fatalf("%s: %+v, want code %d at %d", call, *f, code, at)
	}
}

// want stops the test unless err is what a model says: nil if code is 0.
func want(t *testing.T, call string, err error, code api.Errno, at int) {
	t.Helper()
	if code != 0 {
		wantFault(t, call, err, code, at)
	} else if err != nil {
		t.Fatalf("%s: %v, want nil", call, err)
	}
}

// make1 is a new arena with so many words allocated.
func make1(t *testing.T, max, top int) *arena.Arena {
	t.Helper()
	a, err := arena.New(max)
	if err != nil || a == nil {
		t.Fatalf("New(%d) = %v, %v", max, a, err)
	}
	if top > 0 {
		if at, err := a.Alloc(top); at != 0 || err != nil {
			t.Fatalf("Alloc(%d) = %d, %v", top, at, err)
		}
	}
	return a
}

// same stops the test unless all that an arena tells is what the model says.
func same(t *testing.T, call string, a *arena.Arena, m model) {
	t.Helper()
	if a.Max() != m.max || a.Top() != len(m.words) {
		t.Fatalf("%s: Max %d, Top %d, want %d, %d", call, a.Max(), a.Top(), m.max, len(m.words))
	}
	if w := a.Words(); !slices.Equal(w, m.words) {
		t.Fatalf("%s: Words %v, want %v", call, w, m.words)
	}
	for at, x := range m.words {
		if w, err := a.Load(at); w != x || err != nil {
			t.Fatalf("%s: Load(%d) = %d, %v, want %d", call, at, w, err, x)
		}
	}
	bad := slices.IndexFunc(m.words, func(w uint64) bool { return !mayStand(w, len(m.words)) })
	if bad >= 0 {
		wantFault(t, call+": Check", a.Check(), api.ErrWord, bad)
	} else if err := a.Check(); err != nil {
		t.Fatalf("%s: Check %v", call, err)
	}
}

// refs are n references, each to itself.
func refs(n int) []uint64 {
	out := make([]uint64, n)
	for i := range out {
		out[i] = uint64(i) * 8
	}
	return out
}

// P2.1: New at all its edges; beside an error there is no arena.
func TestNew(t *testing.T) {
	for _, max := range []int{1, 2, 65535, 65536} {
		same(t, "New", make1(t, max, 0), model{max: max})
	}
	for _, max := range []int{0, -1, -2, 65537, 1 << 32, 1<<32 + 1, math.MinInt, math.MaxInt} {
		a, err := arena.New(max)
		wantFault(t, "New", err, api.ErrMax, max)
		if a != nil {
			t.Errorf("New(%d) has an arena beside its error", max)
		}
	}
}

// P2.1: the chapter's examples, as they stand there.
func TestExamples(t *testing.T) {
	a := make1(t, 4, 2)
	_, err := a.Alloc(3)
	wantFault(t, "Alloc(3)", err, api.ErrFull, 3)
	if at, err := a.Alloc(2); at != 2 || err != nil {
		t.Fatalf("Alloc(2) = %d, %v", at, err)
	}
	_, err = a.Alloc(1)
	wantFault(t, "Alloc(1)", err, api.ErrFull, 1)
	if w, err := a.Load(1); w != 8 || err != nil {
		t.Fatalf("Load(1) = %d, %v", w, err)
	}
	_, err = a.Load(4)
	wantFault(t, "Load(4)", err, api.ErrPlace, 4)
	want(t, "Store(0, 8)", a.Store(0, 8), 0, 0)
	wantFault(t, "Store(0, 32)", a.Store(0, 32), api.ErrWord, 0)
	wantFault(t, "Store(9, 0)", a.Store(9, 0), api.ErrPlace, 9)
	wantFault(t, "Store(1, 7)", a.Store(1, 7), api.ErrWord, 1)
	want(t, "Store(0, 24)", a.Store(0, 24), 0, 0)
	want(t, "Cut(2)", a.Cut(2), 0, 0)
	wantFault(t, "Check", a.Check(), api.ErrWord, 0)
	want(t, "Fill", a.Fill([]uint64{8, 0}), 0, 0)
	same(t, "Fill", a, model{4, []uint64{8, 0}})
}

// P2.1: words are allocated one behind the other up to Max, each fresh, and not one more.
func TestAllocUpToMax(t *testing.T) {
	for _, max := range []int{1, 2, 7, 100, 65535, 65536} {
		a := make1(t, max, 0)
		for top := 0; top < max; {
			at, err := a.Alloc(max - top + 1)
			wantFault(t, "Alloc beyond Max", err, api.ErrFull, max-top+1)
			if at != 0 {
				t.Fatalf("a place beside an error: %d", at)
			}
			n := (max - top + 1) / 2
			if at, err := a.Alloc(n); at != top || err != nil {
				t.Fatalf("Alloc(%d) at Top %d of %d: %d, %v", n, top, max, at, err)
			}
			top += n
		}
		at, err := a.Alloc(1)
		wantFault(t, "Alloc at Max", err, api.ErrFull, 1)
		if at != 0 {
			t.Errorf("a place beside an error: %d", at)
		}
		same(t, "Alloc", a, model{max, refs(max)})
	}
}

// P2.1: numbers of words that can't be, and that would wrap round; nothing has changed behind them.
func TestAllocRefuses(t *testing.T) {
	for _, top := range []int{0, 1, 3, 4} {
		a := make1(t, 4, top)
		for _, n := range []int{0, -1, -4, -65536, math.MinInt} {
			_, err := a.Alloc(n)
			wantFault(t, "Alloc below 1", err, api.ErrCount, n)
		}
		for _, n := range []int{5 - top, 5, 65536, 1 << 32, 1<<32 + 1, math.MaxInt - top, math.MaxInt - 3, math.MaxInt} {
			_, err := a.Alloc(n)
			wantFault(t, "Alloc above Max", err, api.ErrFull, n)
		}
		same(t, "refused Alloc", a, model{4, refs(top)})
	}
}

// P2.1: Load, Store and Cut at -1, at Top - 1, Top and above.
func TestPlaces(t *testing.T) {
	for _, top := range []int{0, 1, 2, 5, 8} {
		for _, at := range []int{math.MinInt, -65536, -1, 0, 1, top - 1, top, top + 1, 8, 9, 65536, 1 << 32, math.MaxInt} {
			a, m := make1(t, 8, top), model{8, refs(top)}
			w, err := a.Load(at)
			inside := at >= 0 && at < top
			if inside && (w != uint64(at)*8 || err != nil) {
				t.Fatalf("Load(%d) at Top %d: %d, %v", at, top, w, err)
			}
			if !inside {
				wantFault(t, "Load", err, api.ErrPlace, at)
				wantFault(t, "Store", a.Store(at, of(1, 3)), api.ErrPlace, at)
				wantFault(t, "Store of a wrong word", a.Store(at, 7), api.ErrPlace, at)
				if w != 0 {
					t.Fatalf("a word beside an error: %d", w)
				}
			} else {
				want(t, "Store", a.Store(at, of(1, 3)), 0, 0)
				m.words[at] = of(1, 3)
			}
			same(t, "Store", a, m)
			if at < 0 || at > top {
				wantFault(t, "Cut", a.Cut(at), api.ErrPlace, at)
			} else {
				want(t, "Cut", a.Cut(at), 0, 0)
				m.words = m.words[:at]
			}
			same(t, "Cut", a, m)
		}
	}
}

// P2.1: which words Store takes: those that tell Top - 1, not those that tell Top, though Max is above it.
func TestStoreOfWords(t *testing.T) {
	for _, top := range []int{1, 2, 5, 65535, 65536} {
		a := make1(t, 65536, top)
		words := append(badWords(), freeWords()...)
		for _, tag := range []int{0, 3, 5} {
			for _, place := range []int{0, top - 1, top, top + 1, 65535} {
				words = append(words, of(tag, place))
			}
		}
		for _, w := range words {
			for _, at := range []int{0, top - 1} {
				old, _ := a.Load(at)
				err := a.Store(at, w)
				now, _ := a.Load(at)
				if mayStand(w, top) {
					want(t, "Store", err, 0, 0)
					old = w
				} else {
					wantFault(t, "Store", err, api.ErrWord, at)
				}
				if now != old {
					t.Fatalf("Store(%d, %d) at Top %d: the word is %d, want %d", at, w, top, now, old)
				}
			}
		}
	}
}

// P2.1: the words below a Cut stay, and Check tells the first that may not stand there any more.
func TestCutAndCheck(t *testing.T) {
	a := make1(t, 8, 6)
	m := model{8, []uint64{of(3, 3), of(0, 1), of(5, 5), of(2, 9), of(0, 2), of(4, 33)}}
	for at, w := range m.words {
		want(t, "Store", a.Store(at, w), 0, 0)
	}
	for _, x := range []struct{ top, bad int }{{6, -1}, {5, 2}, {4, 2}, {3, 0}, {2, 0}, {1, 0}, {0, -1}} {
		want(t, "Cut", a.Cut(x.top), 0, 0)
		m.words = m.words[:x.top]
		same(t, "Cut", a, m)
		if x.bad >= 0 {
			wantFault(t, "Check", a.Check(), api.ErrWord, x.bad)
		} else {
			want(t, "Check", a.Check(), 0, 0)
		}
	}
}

// P2.1: what stands below a Cut may tell a place that isn't allocated, but nothing of that kind is stored anew.
func TestStoreBehindACut(t *testing.T) {
	a := make1(t, 4, 4)
	want(t, "Store", a.Store(0, of(0, 3)), 0, 0)
	want(t, "Cut", a.Cut(3), 0, 0)
	wantFault(t, "Store", a.Store(1, of(0, 3)), api.ErrWord, 1)
	wantFault(t, "Store", a.Store(0, of(0, 3)), api.ErrWord, 0)
	want(t, "Store", a.Store(1, of(0, 2)), 0, 0)
	same(t, "Store", a, model{4, []uint64{of(0, 3), of(0, 2), of(0, 2)}})
}

// P2.3: an Alloc behind a Cut gives fresh words, whatever stood there.
func TestAllocBehindACut(t *testing.T) {
	for _, keep := range []int{0, 1, 3, 5} {
		for _, n := range []int{1, 5 - keep, 6 - keep} {
			if n < 1 {
				continue
			}
			a := make1(t, 6, 6)
			for at := range 6 {
				want(t, "Store", a.Store(at, of(2, 100+at)), 0, 0)
			}
			want(t, "Cut", a.Cut(keep), 0, 0)
			if at, err := a.Alloc(n); at != keep || err != nil {
				t.Fatalf("Alloc(%d) behind Cut(%d) = %d, %v", n, keep, at, err)
			}
			m := model{6, refs(keep + n)}
			for at := range keep {
				m.words[at] = of(2, 100+at)
			}
			same(t, "Alloc behind a Cut", a, m)
		}
	}
}

// P2.1, P2.3: Fill of fewer words, of none and of Max; an Alloc behind it gives fresh words.
func TestFill(t *testing.T) {
	for _, words := range [][]uint64{nil, {}, {of(2, -1)}, {of(0, 1), of(0, 0)}, {of(3, 2), of(5, 1), of(4, 17)}, {of(0, 3), of(3, 3), of(5, 3), of(1, 5)}} {
		a := make1(t, 4, 3)
		want(t, "Store", a.Store(2, of(2, 77)), 0, 0)
		want(t, "Fill", a.Fill(words), 0, 0)
		m := model{4, slices.Clone(words)}
		same(t, "Fill", a, m)
		for len(m.words) < 4 {
			if at, err := a.Alloc(1); at != len(m.words) || err != nil {
				t.Fatalf("Alloc behind Fill: %d, %v, want %d", at, err, len(m.words))
			}
			m.words = append(m.words, of(0, len(m.words)))
			same(t, "Alloc behind Fill", a, m)
		}
		_, err := a.Alloc(1)
		wantFault(t, "Alloc behind Fill", err, api.ErrFull, 1)
	}
}

// P2.1: Fill refuses more than Max words ahead of wrong ones, tells the first wrong one, and changes nothing.
func TestFillRefuses(t *testing.T) {
	for _, max := range []int{1, 4, 65536} {
		a := make1(t, max, 1)
		want(t, "Store", a.Store(0, of(2, 5)), 0, 0)
		m := model{max, []uint64{of(2, 5)}}
		for _, n := range []int{max + 1, max + 2, 2 * max} {
			wantFault(t, "Fill above Max", a.Fill(make([]uint64, n)), api.ErrFull, n)
			wrong := slices.Repeat([]uint64{7}, n)
			wantFault(t, "Fill of wrong words above Max", a.Fill(wrong), api.ErrFull, n)
		}
		same(t, "Fill above Max", a, m)
		wrong := badWords()
		for _, tag := range []int{0, 3, 5} {
			wrong = append(wrong, of(tag, max), of(tag, 65536))
		}
		for _, w := range wrong {
			for _, at := range []int{0, max / 2, max - 1} {
				words := refs(max)
				words[at], words[max-1] = w, w
				wantFault(t, "Fill of a wrong word", a.Fill(words), api.ErrWord, at)
			}
			same(t, "Fill of a wrong word", a, m)
		}
	}
}

// P2.1: a word handed to Fill is held against the new words, not against those that were allocated, nor against Max.
func TestFillCountsItsOwnWords(t *testing.T) {
	a := make1(t, 8, 8)
	for _, tag := range []int{0, 3, 5} {
		for n := 1; n <= 8; n++ {
			words := slices.Repeat([]uint64{of(1, 1)}, n)
			words[n/2] = of(tag, n-1)
			want(t, "Fill", a.Fill(words), 0, 0)
			same(t, "Fill", a, model{8, words})
			wrong := slices.Clone(words)
			wrong[n/2] = of(tag, n)
			wantFault(t, "Fill", a.Fill(wrong), api.ErrWord, n/2)
			same(t, "refused Fill", a, model{8, words})
		}
	}
}

// P2.3: an arena is copied whole by Words and Fill, full or not.
func TestFillOfWords(t *testing.T) {
	for _, top := range []int{1, 2, 4, 65536} {
		max := max(4, top)
		a, b := make1(t, max, top), make1(t, max, max)
		want(t, "Store", a.Store(0, of(3, top-1)), 0, 0)
		want(t, "Store", a.Store(top-1, of(2, -3)), 0, 0)
		want(t, "Fill", b.Fill(a.Words()), 0, 0)
		same(t, "Fill of Words", b, model{max, a.Words()})
		want(t, "Fill of its own words", b.Fill(b.Words()), 0, 0)
		same(t, "Fill of its own words", b, model{max, a.Words()})
	}
}

// P2.4: who writes into what Words answered, its spare room too, changes no arena, and no other answer.
func TestWordsAreNewMemory(t *testing.T) {
	for _, top := range []int{0, 1, 3, 5} {
		a := make1(t, 8, 5)
		want(t, "Cut", a.Cut(top), 0, 0)
		first, second := a.Words(), a.Words()
		for i := range first[:cap(first)] {
			first[:cap(first)][i] = 7
		}
		_ = append(first, 7, 7, 7)
		same(t, "Words written over", a, model{8, refs(top)})
		if !slices.Equal(second, refs(top)) {
			t.Fatalf("another answer is changed: %v", second)
		}
		if _, err := a.Alloc(8 - top); err != nil {
			t.Fatal(err)
		}
		same(t, "Alloc behind Words", a, model{8, refs(8)})
		want(t, "Fill", a.Fill(slices.Repeat([]uint64{of(2, 1)}, 8)), 0, 0)
		if !slices.Equal(second, refs(top)) {
			t.Fatalf("an answer is changed by later calls: %v", second)
		}
	}
}

// P2.4: what is handed to Fill is neither kept nor changed, its spare room included.
func TestFillKeepsNothing(t *testing.T) {
	whole := []uint64{of(0, 1), of(0, 0), 7, 7, 7}
	handed := whole[:2]
	a := make1(t, 5, 0)
	want(t, "Fill", a.Fill(handed), 0, 0)
	want(t, "Store", a.Store(0, of(2, 4)), 0, 0)
	if _, err := a.Alloc(3); err != nil {
		t.Fatal(err)
	}
	if !slices.Equal(whole, []uint64{of(0, 1), of(0, 0), 7, 7, 7}) {
		t.Fatalf("what was handed in is changed: %v", whole)
	}
	m := model{5, []uint64{of(2, 4), 0, of(0, 2), of(0, 3), of(0, 4)}}
	same(t, "Fill", a, m)
	for i := range whole {
		whole[i] = 7
	}
	same(t, "what was handed in, written over", a, m)
	wantFault(t, "Fill", a.Fill(whole), api.ErrWord, 0)
	same(t, "refused Fill", a, m)
}

// P2.4: two arenas filled with the same list are two.
func TestTwoArenas(t *testing.T) {
	a, b := make1(t, 3, 3), make1(t, 3, 0)
	words := a.Words()
	want(t, "Fill", b.Fill(words), 0, 0)
	want(t, "Store", a.Store(0, of(1, 1)), 0, 0)
	want(t, "Store", b.Store(1, of(1, 2)), 0, 0)
	want(t, "Cut", b.Cut(2), 0, 0)
	same(t, "one", a, model{3, []uint64{of(1, 1), 8, 16}})
	same(t, "the other", b, model{3, []uint64{0, of(1, 2)}})
}

// R7: a nil arena answers as an empty one of the greatest size; what would change it answers ErrNil ahead of all else.
func TestNilArena(t *testing.T) {
	var a *arena.Arena
	for _, n := range []int{math.MinInt, -1, 0, 1, 65536, 65537, math.MaxInt} {
		at, err := a.Alloc(n)
		wantFault(t, "Alloc", err, api.ErrNil, -1)
		w, err := a.Load(n)
		wantFault(t, "Load", err, api.ErrPlace, n)
		if at != 0 || w != 0 {
			t.Errorf("beside an error: %d, %d", at, w)
		}
		wantFault(t, "Store", a.Store(n, 0), api.ErrNil, -1)
		wantFault(t, "Store", a.Store(n, 7), api.ErrNil, -1)
		wantFault(t, "Cut", a.Cut(n), api.ErrNil, -1)
	}
	for _, words := range [][]uint64{nil, {}, {0}, {7}, make([]uint64, 65537)} {
		wantFault(t, "Fill", a.Fill(words), api.ErrNil, -1)
	}
	same(t, "nil", a, model{max: 65536})
}

// dice are numbers that look scattered, the same ones in each run.
type dice uint64

func (d *dice) below(n int) int {
	*d = *d*6364136223846793005 + 1442695040888963407
	return int(uint64(*d)>>33) % n
}

// place is a place inside, at an edge or outside.
func (d *dice) place(m model) int {
	return []int{d.below(len(m.words) + 1), len(m.words) - 1, len(m.words), len(m.words) + 1, -1, m.max, math.MaxInt, math.MinInt}[max(0, d.below(16)-8)]
}

func (d *dice) word(top int) uint64 {
	switch d.below(8) {
	case 0:
		return badWords()[d.below(len(badWords()))]
	case 1:
		return freeWords()[d.below(len(freeWords()))]
	case 2:
		return of([]int{0, 3, 5}[d.below(3)], top)
	}
	return of([]int{0, 3, 5}[d.below(3)], d.below(max(1, top)))
}

// act makes one call at the arena and at the model, and holds the answers against each other.
func (d *dice) act(t *testing.T, a *arena.Arena, m model, cuts bool) model {
	top := len(m.words)
	outside := func(at int) bool { return at < 0 || at >= top }
	switch d.below(6) {
	case 0:
		n := []int{1, 2, 3, d.below(m.max + 2), 0, -1, m.max - top, m.max - top + 1, math.MaxInt}[max(0, d.below(15)-6)]
		at, err := a.Alloc(n)
		if n < 1 {
			wantFault(t, "Alloc", err, api.ErrCount, n)
		} else if n > m.max || top+n > m.max {
			wantFault(t, "Alloc", err, api.ErrFull, n)
		} else if at != top || err != nil {
			t.Fatalf("Alloc(%d) = %d, %v, want %d", n, at, err, top)
		} else {
			m.words = append(slices.Clone(m.words), refs(top + n)[top:]...)
		}
	case 1, 2:
		at, w := d.place(m), d.word(top)
		err := a.Store(at, w)
		if outside(at) {
			wantFault(t, "Store", err, api.ErrPlace, at)
		} else if !mayStand(w, top) {
			wantFault(t, "Store", err, api.ErrWord, at)
		} else {
			want(t, "Store", err, 0, 0)
			m.words = slices.Clone(m.words)
			m.words[at] = w
		}
	case 3:
		if !cuts {
			break
		}
		at := d.place(m)
		if outside(at) && at != top {
			wantFault(t, "Cut", a.Cut(at), api.ErrPlace, at)
		} else {
			want(t, "Cut", a.Cut(at), 0, 0)
			m.words = slices.Clone(m.words[:at])
		}
	case 4:
		at := d.place(m)
		w, err := a.Load(at)
		if outside(at) {
			wantFault(t, "Load", err, api.ErrPlace, at)
		} else if w != m.words[at] || err != nil {
			t.Fatalf("Load(%d) = %d, %v, want %d", at, w, err, m.words[at])
		}
	case 5:
		return d.fill(t, a, m)
	}
	return m
}

func (d *dice) fill(t *testing.T, a *arena.Arena, m model) model {
	words := make([]uint64, d.below(m.max+2))
	for i := range words {
		words[i] = of(0, i)
		if d.below(4) == 0 {
			words[i] = d.word(len(words))
		}
	}
	bad := slices.IndexFunc(words, func(w uint64) bool { return !mayStand(w, len(words)) })
	err := a.Fill(words)
	switch {
	case len(words) > m.max:
		wantFault(t, "Fill", err, api.ErrFull, len(words))
	case bad >= 0:
		wantFault(t, "Fill", err, api.ErrWord, bad)
	default:
		want(t, "Fill", err, 0, 0)
		m.words = words
	}
	return m
}

// P2.1, P2.2: long rows of calls in any order answer as the model does; where none of them is Cut, Check is nil behind each.
func TestRowsOfCalls(t *testing.T) {
	for seed := range 400 {
		d := dice(seed)
		m := model{max: 1 + d.below(12)}
		a := make1(t, m.max, 0)
		cuts := seed%2 == 0
		for i := range 150 {
			m = d.act(t, a, m, cuts)
			same(t, "row "+strconv.Itoa(seed)+", call "+strconv.Itoa(i), a, m)
			if err := a.Check(); !cuts && err != nil {
				t.Fatalf("row %d, call %d: no Cut, but Check tells %v", seed, i, err)
			}
		}
		b := make1(t, m.max, d.below(m.max+1))
		if a.Check() == nil {
			want(t, "Fill of Words", b.Fill(a.Words()), 0, 0)
			same(t, "Fill of Words", b, m)
		}
	}
}
