package names_test

import (
	"math"
	"regexp"
	"runtime"
	"slices"
	"strconv"
	"strings"
	"testing"

	"tendril/api"
	"tendril/names"
)

// pair is what an iterator gives at one step.
type pair struct {
	number int
	name   string
}

// wantFault stops the test unless err is a bare fault of that code and name, and the number beside it is 0.
func wantFault(t *testing.T, call string, n int, err error, code api.Errno, name string) {
	t.Helper()
	f, ok := err.(*api.Fault)
	if !ok || f == nil {
		t.Fatalf("%s: %v, want a fault of code %d", call, err, code)
	}
	if f.Code != code || f.At != -1 || f.Name != name || f.Cause != nil {
		t.Fatalf("%s: %+v, want code %d, At -1 and Name %q", call, *f, code, name)
	}
	if n != 0 {
		t.Fatalf("%s: the number %d beside an error", call, n)
	}
}

// wantPut stops the test unless Put answers that number.
func wantPut(t *testing.T, x *names.Table, name string, want int) {
	t.Helper()
	if n, err := x.Put(name); n != want || err != nil {
		t.Fatalf("Put(%q) = %d, %v, want %d", name, n, err, want)
	}
}

// wantAll stops the test unless an iterator gives just these names, by number.
func wantAll(t *testing.T, call string, all func(func(int, string) bool), want []string) {
	t.Helper()
	if all == nil {
		t.Fatalf("%s: All is nil", call)
	}
	var got []pair
	for n, s := range all {
		got = append(got, pair{n, s})
	}
	if len(got) != len(want) {
		t.Fatalf("%s: All gives %d names, want %d", call, len(got), len(want))
	}
	for n, s := range want {
		if got[n] != (pair{n, s}) {
			t.Fatalf("%s: All gives %v at step %d, want %q", call, got[n], n, s)
		}
	}
}

// same stops the test unless all that a table tells is what the list of its names says.
func same(t *testing.T, call string, x *names.Table, want []string) {
	t.Helper()
	if x.Len() != len(want) {
		t.Fatalf("%s: Len %d, want %d", call, x.Len(), len(want))
	}
	for n, s := range want {
		if got, ok := x.Name(n); got != s || !ok {
			t.Fatalf("%s: Name(%d) = %q, %v, want %q", call, n, got, ok, s)
		}
		if got, ok := x.Find(s); got != n || !ok {
			t.Fatalf("%s: Find(%q) = %d, %v, want %d", call, s, got, ok, n)
		}
	}
	for _, n := range []int{math.MinInt, -1 << 32, -1024, -len(want), -1, len(want), len(want) + 1, 1024, 1 << 32, math.MaxInt} {
		if got, ok := x.Name(n); (n < 0 || n >= len(want)) && (got != "" || ok) {
			t.Fatalf("%s: Name(%d) of %d names = %q, %v", call, n, len(want), got, ok)
		}
	}
	wantAll(t, call, x.All(), want)
}

// nth are n names, all unlike.
func nth(n int) []string {
	out := make([]string, n)
	for i := range out {
		out[i] = "n" + strconv.Itoa(i)
	}
	return out
}

// filled is a new table that the names were put into.
func filled(t *testing.T, list []string) *names.Table {
	t.Helper()
	x := names.New()
	if x == nil {
		t.Fatal("New is nil")
	}
	for n, s := range list {
		wantPut(t, x, s, n)
	}
	return x
}

// noNames are texts that are no names: wrong in their length, in one byte, in all.
func noNames() []string {
	long := strings.Repeat("x", 32)
	out := []string{
		"", long + "x", long + " ", " " + long, long + long, strings.Repeat("x", 1<<16+1), strings.Repeat("x", 256),
		"a b", " a", "a ", "a\n", "a\x00", "\x00a", "é", "aé", "日", "a\u0301", "\ufeffa", "\xff", "a\x80",
		strings.Repeat("é", 16), strings.Repeat(" ", 32), long[1:] + "\x7f", "\x20" + long[1:],
	}
	for b := range 256 {
		if b < 0x21 || b > 0x7e {
			out = append(out, string([]byte{byte(b)}), string([]byte{'a', byte(b)}), string([]byte{byte(b), 'a'}), string([]byte{'a', byte(b), 'a'}))
		}
	}
	return out
}

// goodNames are names at the edges: each byte alone, shortest and longest, parts of one another.
func goodNames() []string {
	long := strings.Repeat("x", 32)
	out := []string{"ab", "aa", "aaa", "[]", "\\\"", "!~", "~!", "ba", "1024", "-1", "AB", "Ab", long, long[1:], long[1:] + "!", long[1:] + "~", "!" + long[1:], strings.Repeat("~", 32), strings.Repeat("!", 32)}
	for b := 0x21; b <= 0x7e; b++ {
		out = append(out, string([]byte{byte(b)}))
	}
	return out
}

// P3.1: Good by the number of bytes.
func TestGoodByLength(t *testing.T) {
	for n := range 300 {
		for _, b := range []string{"!", "x", "~"} {
			if got := names.Good(strings.Repeat(b, n)); got != (1 <= n && n <= 32) {
				t.Errorf("Good of %d times %q = %v", n, b, got)
			}
		}
	}
	for _, n := range []int{1<<8 + 1, 1<<16 + 1, 1 << 22} {
		if names.Good(strings.Repeat("x", n)) {
			t.Errorf("Good of %d bytes", n)
		}
	}
}

// P3.1: Good by each byte, at each place of a name of each length.
func TestGoodByByte(t *testing.T) {
	for b := range 256 {
		for n := 1; n <= 32; n++ {
			for at := range n {
				s := []byte(strings.Repeat("a", n))
				s[at] = byte(b)
				if got := names.Good(string(s)); got != (0x21 <= b && b <= 0x7e) {
					t.Fatalf("Good(%q) = %v", s, got)
				}
			}
		}
	}
	for _, s := range noNames() {
		if names.Good(s) {
			t.Errorf("Good(%q)", s)
		}
	}
	for _, s := range goodNames() {
		if !names.Good(s) {
			t.Errorf("not Good(%q)", s)
		}
	}
}

// P3.1: the chapter's examples, as they stand there.
func TestExamples(t *testing.T) {
	x := names.New()
	wantPut(t, x, "b", 0)
	wantPut(t, x, "a", 1)
	wantPut(t, x, "b", 0)
	same(t, "b, a", x, []string{"b", "a"})
	if n, ok := x.Find("c"); n != 0 || ok {
		t.Errorf("Find(c) = %d, %v", n, ok)
	}
	n, err := x.Put("")
	wantFault(t, "Put of nothing", n, err, api.ErrName, "")
	n, err = x.Put("a b")
	wantFault(t, "Put(a b)", n, err, api.ErrName, "a b")
	if !names.Good(strings.Repeat("x", 32)) || names.Good(strings.Repeat("x", 33)) {
		t.Error("Good of 32 and 33 bytes")
	}
	if !names.Good(".") || !names.Good("[]") || names.Good("é") {
		t.Error("Good of ., [] and é")
	}
}

// P3.1, R4: a text that is no name is refused by Put, is found nowhere, and leaves the table as it was.
func TestNoNames(t *testing.T) {
	for _, size := range []int{0, 1, 5, 1023, 1024} {
		list := nth(size)
		x := filled(t, list)
		for _, s := range noNames() {
			n, err := x.Put(s)
			wantFault(t, "Put("+strconv.Quote(s)+")", n, err, api.ErrName, s)
			if n, ok := x.Find(s); n != 0 || ok {
				t.Fatalf("Find(%q) = %d, %v", s, n, ok)
			}
		}
		same(t, "refused Put", x, list)
	}
}

// P3.1, P3.2: names at the edges get the next numbers, in the order in which they come, and keep them.
func TestNumbersInOrder(t *testing.T) {
	list := goodNames()
	x := names.New()
	for i, s := range list {
		if n, ok := x.Find(s); n != 0 || ok {
			t.Fatalf("Find(%q) ahead of its Put = %d, %v", s, n, ok)
		}
		wantPut(t, x, s, i)
		same(t, "Put("+s+")", x, list[:i+1])
	}
	for i, s := range slices.Backward(list) {
		wantPut(t, x, s, i)
	}
	same(t, "all put again", x, list)
}

// P3.1: new and known names at all sizes, up to MaxNames - 1, at MaxNames and refused there, as often as one asks.
func TestUpToMaxNames(t *testing.T) {
	list := nth(1024)
	x := names.New()
	for i, s := range list {
		wantPut(t, x, s, i)
		wantPut(t, x, s, i)
		wantPut(t, x, "n0", 0)
		if x.Len() != i+1 {
			t.Fatalf("Len %d behind %d names", x.Len(), i+1)
		}
		if i%64 == 0 || i > 1020 {
			same(t, "Put", x, list[:i+1])
		}
	}
	for range 3 {
		for _, s := range []string{"n1024", "new", "!", strings.Repeat("x", 32)} {
			n, err := x.Put(s)
			wantFault(t, "Put into a full table", n, err, api.ErrNames, s)
			if n, ok := x.Find(s); n != 0 || ok {
				t.Fatalf("Find(%q) = %d, %v", s, n, ok)
			}
		}
		n, err := x.Put("no name")
		wantFault(t, "Put of no name into a full table", n, err, api.ErrName, "no name")
		for i, s := range list {
			wantPut(t, x, s, i)
		}
		same(t, "full", x, list)
	}
}

// P3.1: a table with MaxNames - 1 names takes one more, whatever was refused ahead of it.
func TestTheLastName(t *testing.T) {
	for _, last := range []string{"~", "n1023", strings.Repeat("y", 32)} {
		list := nth(1023)
		x := filled(t, list)
		n, err := x.Put("\x7f")
		wantFault(t, "Put", n, err, api.ErrName, "\x7f")
		wantPut(t, x, "n1022", 1022)
		wantPut(t, x, last, 1023)
		wantPut(t, x, last, 1023)
		n, err = x.Put("n1024")
		wantFault(t, "Put", n, err, api.ErrNames, "n1024")
		same(t, "full", x, append(list, last))
	}
}

// P3.3, R8: All of every size gives the names by rising number, as often as it is gone over.
func TestAllTwice(t *testing.T) {
	for _, size := range []int{0, 1, 2, 3, 100, 1023, 1024} {
		list := nth(size)
		x := filled(t, list)
		all := x.All()
		for range 3 {
			wantAll(t, "All", all, list)
		}
		for n := range all {
			wantAll(t, "All inside All", all, list)
			if n == 2 {
				break
			}
		}
	}
}

// P3.3, R8: who stops early gets no more, and the next one begins again at 0.
func TestAllLeftEarly(t *testing.T) {
	list := nth(7)
	all := filled(t, list).All()
	for stop := 1; stop <= len(list); stop++ {
		var got []string
		all(func(n int, s string) bool {
			if n != len(got) {
				t.Fatalf("number %d at step %d", n, len(got))
			}
			got = append(got, s)
			return len(got) < stop
		})
		if !slices.Equal(got, list[:stop]) {
			t.Fatalf("stopped at %d, got %v", stop, got)
		}
		wantAll(t, "All behind one that was left", all, list)
	}
}

// P3.3: All tells the table as it was when All was called, whatever comes in ahead of and between the times it is gone over.
func TestAllOfThen(t *testing.T) {
	list := nth(40)
	x := names.New()
	var alls []func(func(int, string) bool)
	for i, s := range list {
		alls = append(alls, x.All())
		wantPut(t, x, s, i)
		for n, all := range alls {
			wantAll(t, "All of "+strconv.Itoa(n)+" names", all, list[:n])
		}
	}
	same(t, "behind it", x, list)
}

// P3.3: names that are put in while All is gone over are in the table, not in that All.
func TestPutInsideAll(t *testing.T) {
	for size := range 20 {
		old := nth(size)
		x := filled(t, old)
		all := x.All()
		now := slices.Clone(old)
		var got []string
		for n, s := range all {
			if n != len(got) {
				t.Fatalf("number %d at step %d", n, len(got))
			}
			got = append(got, s)
			for _, more := range []string{"m", "k"} {
				more += strconv.Itoa(n)
				wantPut(t, x, more, len(now))
				now = append(now, more)
			}
			if len(now) > 100 {
				t.Fatal("All hears of what is put in")
			}
			same(t, "inside All", x, now)
		}
		if !slices.Equal(got, old) {
			t.Fatalf("All gives %v, want %v", got, old)
		}
		wantAll(t, "All behind it", all, old)
		wantAll(t, "a new All", x.All(), now)
	}
}

// P3.3: a Copy has the same names and numbers; its origin and it don't hear of one another, though both give the same number anew.
func TestCopy(t *testing.T) {
	for _, size := range []int{0, 1, 2, 3, 4, 5, 7, 8, 9, 16, 17, 100, 1000} {
		list := nth(size)
		x := filled(t, list)
		all := x.All()
		y := x.Copy()
		z := y.Copy()
		same(t, "copy", y, list)
		ofX, ofY, ofZ := slices.Clone(list), slices.Clone(list), slices.Clone(list)
		for i := range 10 {
			ofX, ofY = append(ofX, "x"+strconv.Itoa(i)), append(ofY, "y"+strconv.Itoa(i))
			wantPut(t, x, ofX[size+i], size+i)
			wantPut(t, y, ofY[size+i], size+i)
			if n, ok := x.Find(ofY[size+i]); n != 0 || ok {
				t.Fatalf("the origin hears of %q", ofY[size+i])
			}
			if n, ok := y.Find(ofX[size+i]); n != 0 || ok {
				t.Fatalf("the copy hears of %q", ofX[size+i])
			}
			same(t, "origin", x, ofX)
			same(t, "copy", y, ofY)
			same(t, "copy of the copy", z, ofZ)
		}
		wantPut(t, z, "y0", size)
		wantPut(t, z, "x0", size+1)
		same(t, "copy of the copy", z, append(ofZ, "y0", "x0"))
		same(t, "origin", x, ofX)
		same(t, "copy", y, ofY)
		wantAll(t, "All of ahead of the copy", all, list)
	}
}

// P3.3: a Copy of a full table is full, one of a table that lacks one name takes one, whatever its origin took.
func TestCopyOfAFullTable(t *testing.T) {
	list := nth(1023)
	x := filled(t, list)
	y := x.Copy()
	wantPut(t, x, "last", 1023)
	z := x.Copy()
	wantPut(t, y, "other", 1023)
	full := append(slices.Clone(list), "last")
	for _, c := range []*names.Table{x, z} {
		n, err := c.Put("other")
		wantFault(t, "Put", n, err, api.ErrNames, "other")
		wantPut(t, c, "last", 1023)
		same(t, "full", c, full)
	}
	n, err := y.Put("last")
	wantFault(t, "Put", n, err, api.ErrNames, "last")
	same(t, "copy", y, append(slices.Clone(list), "other"))
}

// P3.3: a Copy that is made while All is gone over has what is there by then.
func TestCopyInsideAll(t *testing.T) {
	x := filled(t, nth(5))
	now := nth(5)
	for n := range x.All() {
		s := "m" + strconv.Itoa(n)
		wantPut(t, x, s, len(now))
		now = append(now, s)
		y := x.Copy()
		same(t, "copy", y, now)
		wantPut(t, y, "own", len(now))
		same(t, "copy", y, append(slices.Clone(now), "own"))
	}
	same(t, "origin", x, now)
}

// held is how many bytes are in use when all that nobody holds any more is given back.
func held() uint64 {
	var m runtime.MemStats
	runtime.GC()
	runtime.ReadMemStats(&m)
	return m.HeapAlloc
}

// R6: the text that is handed in isn't kept: names that are cut out of long sources don't hold the sources.
func TestHandedInIsNotKept(t *testing.T) {
	x := names.New()
	before := held()
	for n := range 64 {
		source := strings.Repeat("name"+strconv.Itoa(n)+" ", 1<<17)
		wantPut(t, x, source[:strings.IndexByte(source, ' ')], n)
	}
	if after := held(); after > before+1<<23 {
		t.Errorf("%d bytes are held for 64 short names", after-before)
	}
	// The table is asked behind it, so that it is alive while the bytes are counted.
	wantPut(t, x, "name63", 63)
}

// R7: a nil table answers as an empty one; Put answers ErrNil ahead of all else; Copy is a new table.
func TestNilTable(t *testing.T) {
	var x *names.Table
	for _, s := range append(noNames(), goodNames()...) {
		n, err := x.Put(s)
		wantFault(t, "Put", n, err, api.ErrNil, "")
		if n, ok := x.Find(s); n != 0 || ok {
			t.Fatalf("Find(%q) = %d, %v", s, n, ok)
		}
	}
	same(t, "nil", x, nil)
	y, z := x.Copy(), x.Copy()
	if y == nil || z == nil {
		t.Fatal("Copy of a nil table is nil")
	}
	same(t, "Copy of nil", y, nil)
	wantPut(t, y, "a", 0)
	wantPut(t, z, "b", 0)
	same(t, "Copy of nil", y, []string{"a"})
	same(t, "Copy of nil", z, []string{"b"})
	same(t, "nil", x, nil)
}

// P3.2, P3.3: two tables that New makes don't hear of one another.
func TestTwoTables(t *testing.T) {
	x, y := names.New(), names.New()
	wantPut(t, x, "a", 0)
	wantPut(t, y, "b", 0)
	wantPut(t, y, "a", 1)
	same(t, "one", x, []string{"a"})
	same(t, "the other", y, []string{"b", "a"})
}

// dice are numbers that look scattered, the same ones in each run.
type dice uint64

func (d *dice) below(n int) int {
	*d = *d*6364136223846793005 + 1442695040888963407
	return int(uint64(*d)>>33) % n
}

// text is a name, often one that was asked for ahead of it, or no name.
func (d *dice) text() string {
	switch d.below(8) {
	case 0:
		return noNames()[d.below(len(noNames()))]
	case 1:
		return goodNames()[d.below(len(goodNames()))]
	}
	return "m" + strconv.Itoa(d.below(12))
}

// row is tables with what they must tell, and iterators with what these must give.
type row struct {
	tables []*names.Table
	lists  [][]string
	alls   []func(func(int, string) bool)
	gives  [][]string
}

// isName is the document's rule, spelt out apart from the program.
var isName = regexp.MustCompile(`\A[!-~]{1,32}\z`).MatchString

// put puts one name into a table and its list, and holds the answers against each other.
func (r *row) put(t *testing.T, i int, s string) {
	x, list := r.tables[i], r.lists[i]
	n, err := x.Put(s)
	switch at := slices.Index(list, s); {
	case !isName(s):
		wantFault(t, "Put", n, err, api.ErrName, s)
	case at >= 0:
		if n != at || err != nil {
			t.Fatalf("Put(%q) = %d, %v, want %d", s, n, err, at)
		}
	case len(list) == 1024:
		wantFault(t, "Put", n, err, api.ErrNames, s)
	case n != len(list) || err != nil:
		t.Fatalf("Put(%q) = %d, %v, want %d", s, n, err, len(list))
	default:
		r.lists[i] = append(slices.Clone(list), s)
	}
}

// act makes one call at one of the tables.
func (r *row) act(t *testing.T, d *dice) {
	i := d.below(len(r.tables))
	x, list := r.tables[i], r.lists[i]
	switch d.below(6) {
	case 0:
		if len(r.tables) < 4 {
			r.tables, r.lists = append(r.tables, x.Copy()), append(r.lists, list)
		}
	case 1:
		if len(r.alls) < 8 {
			r.alls, r.gives = append(r.alls, x.All()), append(r.gives, list)
		}
	case 2:
		s := d.text()
		n, ok := x.Find(s)
		if want := slices.Index(list, s); ok != (want >= 0) || n != max(0, want) {
			t.Fatalf("Find(%q) = %d, %v, want %d", s, n, ok, want)
		}
	default:
		r.put(t, i, d.text())
	}
}

// P3.1, P3.2, P3.3: long rows of calls in any order, at tables and their copies, answer as lists of names do.
func TestRowsOfCalls(t *testing.T) {
	for seed := range 150 {
		d := dice(seed)
		list := nth([]int{0, 1, 1015, 1020, 1023, 1024}[seed/3%6])
		if seed%3 > 0 {
			list = nth(d.below(5))
		}
		r := &row{tables: []*names.Table{filled(t, list)}, lists: [][]string{list}}
		for i := range 60 {
			r.act(t, &d)
			call := "row " + strconv.Itoa(seed) + ", call " + strconv.Itoa(i)
			for k, x := range r.tables {
				same(t, call, x, r.lists[k])
			}
			for k, all := range r.alls {
				wantAll(t, call, all, r.gives[k])
			}
		}
	}
}
