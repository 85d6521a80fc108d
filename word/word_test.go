package word_test

import (
	"math"
	"math/big"
	"regexp"
	"strconv"
	"strings"
	"testing"

	"tendril/api"
	"tendril/word"
)

// good is the chapter's table of good words, spelt out apart from the program.
func good(tag, value int) bool {
	switch tag {
	case 0, 3, 5:
		return 0 <= value && value <= 65535
	case 1:
		return 0 <= value && value <= 1023
	case 2:
		return -1125899906842624 <= value && value <= 1125899906842624
	case 4:
		for k := 1; k <= 8; k++ {
			if n := value - k; n >= 0 && n%16 == 0 && n/16 <= 1023 {
				return true
			}
		}
	}
	return false
}

// parts is a word's tag and value by the chapter's words, in numbers of any size.
func parts(w uint64) (int, int) {
	n := new(big.Int).SetUint64(w)
	if w >= 1<<63 {
		n.Sub(n, new(big.Int).Lsh(big.NewInt(1), 64))
	}
	value, tag := new(big.Int).DivMod(n, big.NewInt(8), new(big.Int))
	return int(tag.Int64()), int(value.Int64())
}

// whole is the word of a tag and a value by the chapter's words, in numbers of any size.
func whole(tag, value int) uint64 {
	n := new(big.Int).Mul(big.NewInt(int64(value)), big.NewInt(8))
	n.Add(n, big.NewInt(int64(tag)))
	return n.Mod(n, new(big.Int).Lsh(big.NewInt(1), 64)).Uint64()
}

// edges are values at and beside all bounds, and those that pass for others if a sum or product wraps round.
func edges() []int {
	var out []int
	for _, mid := range []int{0, 16, 404, 1023, 1024, 1023 * 16, 1024 * 16, 65535, 65536, api.MaxInt, -api.MaxInt, 1 << 31, 1 << 32, 1 << 58, 1 << 60, 1 << 61, -1 << 58, -1 << 60, -1 << 61, 1 << 62, -1 << 62} {
		for d := -20; d <= 20; d++ {
			out = append(out, mid+d)
		}
	}
	for d := range 20 {
		out = append(out, math.MinInt+d, math.MaxInt-d)
	}
	return out
}

func edgeTags() []int {
	return []int{math.MinInt, -8, -1, 0, 1, 2, 3, 4, 5, 6, 7, 8, 9, 10, 13, 256, 1 << 32, 1 << 61, math.MaxInt}
}

// samples are words of all kinds: all small ones, those at the edges, single bits, and a row of scattered ones.
func samples() []uint64 {
	var out []uint64
	for w := range uint64(8 * (api.MaxWords + 100)) {
		out = append(out, w)
	}
	for w := uint64(1); w <= 2000; w++ {
		out = append(out, -w)
	}
	for _, v := range edges() {
		for tag := range uint64(8) {
			out = append(out, uint64(v)<<3|tag, uint64(v)^tag)
		}
	}
	for i := range 64 {
		for tag := range uint64(8) {
			out = append(out, 1<<i|tag, ^uint64(0)<<i&^7|tag)
		}
	}
	for x, i := uint64(1), 0; i < 20000; i++ {
		x = x*6364136223846793005 + 1442695040888963407
		out = append(out, x, x>>(i%64))
	}
	return out
}

// wantFault stops the test unless err is a bare fault of that code and the result beside it is 0.
func wantFault(t *testing.T, call string, w uint64, err error, code api.Errno) {
	t.Helper()
	f, ok := err.(*api.Fault)
	if !ok || f == nil {
		t.Fatalf("%s: %d, %v, want a fault of code %d", call, w, err, code)
	}
	if w != 0 || f.Code != code || f.At != -1 || f.Name != "" || f.Cause != nil {
		t.Fatalf("%s: %d, %+v, want 0 and code %d at -1", call, w, *f, code)
	}
}

// P1.1: the least and greatest value of each tag, and those beside them.
func TestPackAtTheBounds(t *testing.T) {
	for _, x := range []struct{ tag, least, most int }{
		{api.TagRef, 0, 65535},
		{api.TagAtom, 0, 1023},
		{api.TagInt, -1 << 50, 1 << 50},
		{api.TagStr, 0, 65535},
		{api.TagFun, 1, 1023*16 + 8},
		{api.TagFwd, 0, 65535},
	} {
		for _, v := range []int{x.least, x.most} {
			w, err := word.Pack(x.tag, v)
			if err != nil || w != whole(x.tag, v) || !word.Good(w) {
				t.Errorf("Pack(%d, %d) = %d, %v", x.tag, v, w, err)
			}
		}
		for _, v := range []int{x.least - 1, x.most + 1, math.MinInt, math.MaxInt} {
			w, err := word.Pack(x.tag, v)
			wantFault(t, "Pack beyond a bound", w, err, api.ErrValue)
		}
	}
}

// P1.1: the chapter's examples, written as they stand there.
func TestPackExamples(t *testing.T) {
	for _, x := range []struct {
		tag, value int
		want       uint64
	}{{api.TagRef, 5, 40}, {api.TagInt, -1, 1<<64 - 6}, {api.TagInt, -7, 1<<64 - 54}, {api.TagFun, 50, 404}, {api.TagAtom, 1023, 8185}} {
		if w, err := word.Pack(x.tag, x.value); w != x.want || err != nil {
			t.Errorf("Pack(%d, %d) = %d, %v", x.tag, x.value, w, err)
		}
	}
	w, err := word.Pack(api.TagAtom, 1024)
	wantFault(t, "Pack(TagAtom, 1024)", w, err, api.ErrValue)
	w, err = word.Pack(6, 0)
	wantFault(t, "Pack(6, 0)", w, err, api.ErrTag)
	if w, err := word.Fun(3, 2); w != 404 || err != nil {
		t.Errorf("Fun(3, 2) = %d, %v", w, err)
	}
}

// P1.1: at all tags and at values beside all bounds; a wrong tag is told ahead of a wrong value.
func TestPackAtAllEdges(t *testing.T) {
	for _, tag := range edgeTags() {
		for _, v := range edges() {
			w, err := word.Pack(tag, v)
			switch {
			case tag < 0 || tag > 5:
				wantFault(t, "Pack of no tag", w, err, api.ErrTag)
			case !good(tag, v):
				wantFault(t, "Pack of no value", w, err, api.ErrValue)
			case err != nil || w != whole(tag, v) || word.Tag(w) != tag || word.Value(w) != v || !word.Good(w):
				t.Errorf("Pack(%d, %d) = %d, %v: tag %d, value %d, good %v", tag, v, w, err, word.Tag(w), word.Value(w), word.Good(w))
			}
		}
	}
}

// P1.1: every functor, and what Head says of it.
func TestFunOfAllFunctors(t *testing.T) {
	for n := range 1024 {
		for k := 1; k <= 8; k++ {
			w, err := word.Fun(n, k)
			if err != nil || w != uint64((n*16+k)*8+4) || !word.Good(w) {
				t.Fatalf("Fun(%d, %d) = %d, %v", n, k, w, err)
			}
			if p, err := word.Pack(api.TagFun, n*16+k); p != w || err != nil {
				t.Fatalf("Pack(TagFun, %d) = %d, %v, but Fun is %d", n*16+k, p, err, w)
			}
			if name, arity, ok := word.Head(w); name != n || arity != k || !ok {
				t.Fatalf("Head(%d) = %d, %d, %v", w, name, arity, ok)
			}
		}
	}
}

// P1.1: Fun refuses each name and arity outside, also where name times 16 plus arity is a functor's value.
func TestFunRefuses(t *testing.T) {
	taken := 0
	for _, n := range edges() {
		for _, k := range edges() {
			w, err := word.Fun(n, k)
			if 0 <= n && n <= 1023 && 1 <= k && k <= 8 {
				taken++
				if err != nil || w != whole(api.TagFun, n*16+k) {
					t.Errorf("Fun(%d, %d) = %d, %v", n, k, w, err)
				}
				continue
			}
			wantFault(t, "Fun beyond a bound", w, err, api.ErrValue)
		}
	}
	if taken == 0 {
		t.Error("no functor was tried that is one")
	}
}

// P1.1, P1.2: which words are good, and that Pack gives just those back.
func TestGoodOfSamples(t *testing.T) {
	for _, w := range samples() {
		tag, value := parts(w)
		if word.Tag(w) != tag || word.Value(w) != value {
			t.Fatalf("word %d: tag %d, value %d, want %d, %d", w, word.Tag(w), word.Value(w), tag, value)
		}
		if word.Good(w) != good(tag, value) {
			t.Fatalf("Good(%d) = %v: tag %d, value %d", w, word.Good(w), tag, value)
		}
		p, err := word.Pack(tag, value)
		if (p == w && err == nil) != word.Good(w) {
			t.Fatalf("word %d: good %v, but Pack(%d, %d) = %d, %v", w, word.Good(w), tag, value, p, err)
		}
	}
}

// P1.2: the rounding goes down, not towards 0, and tags 6 and 7 are told, too.
func TestTagAndValue(t *testing.T) {
	for _, x := range []struct {
		w          uint64
		tag, value int
	}{
		{0, 0, 0},
		{7, 7, 0},
		{14, 6, 1},
		{40, 0, 5},
		{1<<64 - 6, 2, -1},
		{1<<64 - 1, 7, -1},
		{1<<64 - 8, 0, -1},
		{1<<64 - 9, 7, -2},
		{1 << 63, 0, -1 << 60},
		{1<<63 + 6, 6, -1 << 60},
		{1<<63 - 1, 7, 1<<60 - 1},
	} {
		if tag, value := word.Tag(x.w), word.Value(x.w); tag != x.tag || value != x.value {
			t.Errorf("word %d: tag %d, value %d, want %d, %d", x.w, tag, value, x.tag, x.value)
		}
	}
}

// P1.2: only a good functor has a head, and only a good word of TagRef, TagStr or TagFwd a place.
func TestHeadAndPlaceOfSamples(t *testing.T) {
	for _, w := range samples() {
		tag, value := parts(w)
		name, arity, ok := word.Head(w)
		if tag == 4 && good(tag, value) {
			if name != value/16 || arity != value%16 || !ok {
				t.Fatalf("Head(%d) = %d, %d, %v", w, name, arity, ok)
			}
		} else if name != 0 || arity != 0 || ok {
			t.Fatalf("Head(%d) = %d, %d, %v, but it has none", w, name, arity, ok)
		}
		place, ok := word.Place(w)
		if (tag == 0 || tag == 3 || tag == 5) && good(tag, value) {
			if place != value || !ok {
				t.Fatalf("Place(%d) = %d, %v", w, place, ok)
			}
		} else if place != 0 || ok {
			t.Fatalf("Place(%d) = %d, %v, but it has none", w, place, ok)
		}
	}
}

// P1.2: the least and greatest places, and the kinds that have none.
func TestPlaceAtTheBounds(t *testing.T) {
	for _, tag := range []int{api.TagRef, api.TagStr, api.TagFwd} {
		for _, v := range []int{0, 1, 65535} {
			if p, ok := word.Place(whole(tag, v)); p != v || !ok {
				t.Errorf("Place of tag %d, value %d: %d, %v", tag, v, p, ok)
			}
		}
		for _, v := range []int{-1, 65536} {
			if p, ok := word.Place(whole(tag, v)); p != 0 || ok {
				t.Errorf("Place of tag %d, value %d: %d, %v", tag, v, p, ok)
			}
		}
	}
	for _, tag := range []int{api.TagAtom, api.TagInt, api.TagFun, 6, 7} {
		if p, ok := word.Place(whole(tag, 17)); p != 0 || ok {
			t.Errorf("Place of tag %d: %d, %v", tag, p, ok)
		}
	}
}

// P1.3: the texts of all tags, both ways.
func TestTextAndRead(t *testing.T) {
	for _, x := range []struct {
		w    uint64
		want string
	}{
		{0, "ref 0"},
		{40, "ref 5"},
		{65535 * 8, "ref 65535"},
		{1, "atom 0"},
		{8185, "atom 1023"},
		{2, "int 0"},
		{82, "int 10"},
		{1<<64 - 54, "int -7"},
		{1<<53 + 2, "int 1125899906842624"},
		{1<<64 - 1<<53 + 2, "int -1125899906842624"},
		{3, "str 0"},
		{65535*8 + 3, "str 65535"},
		{404, "fun 3/2"},
		{12, "fun 0/1"},
		{(1023*16+8)*8 + 4, "fun 1023/8"},
		{5, "fwd 0"},
		{65535*8 + 5, "fwd 65535"},
	} {
		if s := word.Text(x.w); s != x.want {
			t.Errorf("Text(%d) = %q, want %q", x.w, s, x.want)
		}
		if w, err := word.Read(x.want); w != x.w || err != nil {
			t.Errorf("Read(%q) = %d, %v, want %d", x.want, w, err, x.w)
		}
	}
}

// P1.3: a word that isn't good is bad, whatever it lacks.
func TestTextOfBadWords(t *testing.T) {
	for _, w := range []uint64{6, 7, 14, 15, 65536 * 8, 1024*8 + 1, 1<<53 + 10, 65536*8 + 3, 4, 9*8 + 4, (1024*16+1)*8 + 4, 65536*8 + 5, 1<<64 - 8, 1<<64 - 1, 1 << 63} {
		if s := word.Text(w); s != "bad" {
			t.Errorf("Text(%d) = %q", w, s)
		}
	}
}

// P1.3: Read takes the text of each good word back, and that of no other.
func TestReadOfTexts(t *testing.T) {
	for _, w := range samples() {
		s := word.Text(w)
		if (s == "bad") == word.Good(w) {
			t.Fatalf("Text(%d) = %q, good %v", w, s, word.Good(w))
		}
		r, err := word.Read(s)
		if word.Good(w) && (r != w || err != nil) {
			t.Fatalf("Read(%q) = %d, %v, want %d", s, r, err, w)
		}
	}
}

// P1.3: wrong texts, each refused by a bare fault.
func TestReadRefuses(t *testing.T) {
	for _, s := range []string{
		"", " ", "  ", "bad", "bad 0", "0", "5", " 5", "-", "/",
		"ref", "ref ", "ref  5", " ref 5", "ref 5 ", "ref 5\n", "ref\t5", "ref5", "Ref 5", "REF 5", "re 5", "reff 5",
		"ref 05", "ref 00", "ref +5", "ref -0", "ref -1", "ref 65536", "ref 0x5", "ref 5.0", "ref 1_0", "ref 5/1", "ref 5 6", "ref five",
		"ref \u0665", "ref 5\x00", "\x00ref 5", "r\xffef 5",
		"atom 1024", "atom -1", "atom 01", "atom", "atom a",
		"int -0", "int +0", "int 00", "int -01", "int --1", "int 1-", "int - 1", "int 1125899906842625", "int -1125899906842625",
		"int 9223372036854775807", "int -9223372036854775808", "int 9223372036854775808", "int 18446744073709551618", "int 1e3", "int ",
		"str -1", "str 65536", "str 01", "str",
		"fun", "fun ", "fun 50", "fun /", "fun 3/", "fun /2", "fun 3/0", "fun 3/9", "fun 3/17", "fun 03/2", "fun 3/02", "fun +3/2", "fun 3/+2",
		"fun -1/17", "fun -1/2", "fun -0/2", "fun 3/-2", "fun 1024/1", "fun 3/2/1", "fun 3 /2", "fun 3/ 2", "fun 3//2", "fun  3/2", "fun 3/2 ",
		"fun 18446744073709551616/1", "fun 1152921504606846976/1",
		"fwd 65536", "fwd -1", "fwd 01", "fwd",
		"tag 5", "var 5", "6 0", "0 5", "-1 5",
	} {
		w, err := word.Read(s)
		wantFault(t, "Read("+strconv.Quote(s)+")", w, err, api.ErrWordText)
	}
}

// P1.3: texts of any length are refused, too.
func TestReadRefusesLongTexts(t *testing.T) {
	long := strings.Repeat("9", 1<<20)
	for _, s := range []string{long, "ref " + long, "int -" + long, "ref " + strings.Repeat("0", 1<<20) + "5", "fun 3/" + long, "fun " + long + "/2", strings.Repeat("ref ", 1<<18)} {
		w, err := word.Read(s)
		wantFault(t, "Read of a long text", w, err, api.ErrWordText)
	}
}

var (
	plainForm   = regexp.MustCompile(`\A(ref|atom|int|str|fwd) (0|-?[1-9][0-9]{0,17})\z`)
	functorForm = regexp.MustCompile(`\Afun (0|[1-9][0-9]{0,17})/([1-9][0-9]{0,17})\z`)
)

func number(s string) int {
	n, _ := new(big.Int).SetString(s, 10)
	return int(n.Int64())
}

// told is the good word that a text tells by the chapter's words, if any.
func told(s string) (uint64, bool) {
	if m := functorForm.FindStringSubmatch(s); m != nil {
		n, k := number(m[1]), number(m[2])
		return uint64((n*16+k)*8 + 4), n <= 1023 && k <= 8
	}
	m := plainForm.FindStringSubmatch(s)
	if m == nil {
		return 0, false
	}
	tag := map[string]int{"ref": 0, "atom": 1, "int": 2, "str": 3, "fwd": 5}[m[1]]
	return whole(tag, number(m[2])), good(tag, number(m[2]))
}

// neighbours are all texts that are one byte away from s: one put in, taken out, or changed.
func neighbours(s string) []string {
	out := []string{s}
	for i := range len(s) + 1 {
		for _, c := range []byte("0123456789-+/ _.xabefinrtuwd\t\n\x00\xff") {
			out = append(out, s[:i]+string([]byte{c})+s[i:])
			if i < len(s) {
				out = append(out, s[:i]+string([]byte{c})+s[i+1:])
			}
		}
		if i < len(s) {
			out = append(out, s[:i]+s[i+1:])
		}
	}
	return out
}

// P1.3: at all texts beside good ones Read takes just those that are a good word's, and Text gives the same text back.
func TestReadBesideGoodTexts(t *testing.T) {
	for _, base := range []string{"ref 5", "ref 65535", "atom 0", "atom 1023", "int 0", "int -7", "int 1125899906842624", "int -1125899906842624", "str 40", "fun 3/2", "fun 0/1", "fun 1023/8", "fwd 12", "bad", ""} {
		for _, s := range neighbours(base) {
			want, ok := told(s)
			w, err := word.Read(s)
			if !ok {
				wantFault(t, "Read("+strconv.Quote(s)+")", w, err, api.ErrWordText)
				continue
			}
			if w != want || err != nil || word.Text(w) != s {
				t.Errorf("Read(%q) = %d, %v, want %d; Text %q", s, w, err, want, word.Text(w))
			}
		}
	}
}
