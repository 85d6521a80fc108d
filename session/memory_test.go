package session_test

import (
	"runtime"
	"slices"
	"strconv"
	"strings"
	"sync"
	"testing"
	"unsafe"

	"tendril/api"
	"tendril/session"
)

// paper is a text whose memory can be written over.
type paper struct {
	text  string
	bytes []byte
}

func written(text string) paper {
	bytes := append([]byte(text), ' ')
	return paper{unsafe.String(&bytes[0], len(text)), bytes}
}

func (p paper) overwrite() {
	for i := range p.bytes {
		p.bytes[i] = '%'
	}
}

// P19.4: sources aren't kept: what is answered is the same when their memory is written over, and none of it lies in that.
func TestSourcesAreNotKept(t *testing.T) {
	for seed := range 300 {
		d := dice(seed)
		steps := []step{{call: "load", source: d.program()}}
		for range 12 {
			steps = append(steps, d.scatteredStep([]string{d.program()}))
		}
		one, other := fresh(t, 5000), fresh(t, 5000)
		var all []paper
		for _, now := range steps {
			want := played(other, now)
			source := written(now.source)
			all = append(all, source)
			now.source = source.text
			if got := played(one, now); got != want {
				t.Fatal(short(got), short(want))
			}
			if source.text != string(source.bytes[:len(source.text)]) || source.bytes[len(source.text)] != ' ' {
				t.Fatal("the source was changed")
			}
			for _, p := range all {
				p.overwrite()
			}
			answer, _ := one.Answer()
			want2, _ := other.Answer()
			if tellingAnswer(answer) != tellingAnswer(want2) || !slices.Equal(one.Preds(), other.Preds()) {
				t.Fatalf("what was handed in is kept: %s, want %s", tellingAnswer(answer), tellingAnswer(want2))
			}
		}
	}
}

// P19.4: a fault that was answered is the same when the source's memory is written over.
func TestFaultsAreTheirOwn(t *testing.T) {
	s := loaded(t, 1000, sample)
	for _, text := range []string{"p :- 'Unknown'.", "co p/0. p :- q. q :- p.", "p([" + repeated("x#,", 1023) + "y]).", "p('"} {
		source := written(text)
		err := s.Load(source.text)
		want := strings.Clone(tell(err))
		source.overwrite()
		if err == nil || tell(err) != want {
			t.Errorf("%s, was %s", tell(err), want)
		}
	}
	for _, text := range []string{"unknown(X).", "X = 'a"} {
		source := written(text)
		err := s.Query(source.text)
		want := strings.Clone(tell(err))
		source.overwrite()
		if err == nil || tell(err) != want {
			t.Errorf("%s, was %s", tell(err), want)
		}
	}
}

// roomy is a list with spare room in which these things stand.
func roomy[T any](list []T, spare ...T) []T {
	out := make([]T, 0, len(list)+len(spare))
	return append(append(out, list...), spare...)[:len(list)]
}

// roomyAnswer is an answer all of whose lists have spare room with something in it.
func roomyAnswer(x api.Answer) api.Answer {
	var nodes []api.Node
	for _, m := range x.Graph.Nodes {
		m.Args = roomy(m.Args, 0, -77)
		nodes = append(nodes, m)
	}
	x.Graph = api.Graph{Nodes: roomy(nodes, c("spare", 0), a("room")), Roots: roomy(x.Graph.Roots, 0, 77, -7)}
	x.Vars = roomy(x.Vars, "Spare", "room")
	x.Proofs = roomy(x.Proofs, api.Proof{Kind: 7}, api.Proof{})
	return x
}

// room is a list with its spare room.
func room[T any](list []T) []T { return list[:cap(list)] }

func numbers(list []int) string {
	out := strconv.Itoa(len(list)) + ":"
	for _, n := range room(list) {
		out += " " + strconv.Itoa(n)
	}
	return out + "; "
}

// wholeAnswer is all that an answer says, and what stands in its spare room.
func wholeAnswer(x api.Answer) string {
	out := strconv.Itoa(len(x.Graph.Nodes)) + "/" + strconv.Itoa(len(x.Vars)) + "/" + strconv.Itoa(len(x.Proofs)) + " " + strings.Join(room(x.Vars), " ") + numbers(x.Graph.Roots)
	for _, m := range room(x.Graph.Nodes) {
		out += strconv.Itoa(m.Kind) + strconv.Quote(m.Name) + strconv.Itoa(m.Num) + numbers(m.Args)
	}
	bare := api.Answer{Difs: x.Difs, Proofs: room(x.Proofs)}
	return out + tellingAnswer(bare)
}

// overwriteAnswer puts other things into an answer, its spare room too.
func overwriteAnswer(x api.Answer) {
	for i := range room(x.Graph.Nodes) {
		m := &room(x.Graph.Nodes)[i]
		for k := range room(m.Args) {
			room(m.Args)[k] = -5
		}
		*m = api.Node{Kind: -5, Name: "over", Num: -5, Args: []int{-5}}
	}
	for i := range room(x.Graph.Roots) {
		room(x.Graph.Roots)[i] = -5
	}
	for i := range room(x.Vars) {
		room(x.Vars)[i] = "Over"
	}
	for i := range room(x.Proofs) {
		room(x.Proofs)[i] = api.Proof{Kind: -5, First: -5, Count: -5}
	}
}

// P19.4: what Show is handed is as it was, spare room included, be it taken or refused; and the text is as it was when that is written over.
func TestShowChangesNothing(t *testing.T) {
	for _, s := range sessions(t) {
		for _, x := range []api.Answer{
			{}, made("f(1) g(2) X h(1) Y", "0 1 1 3 4 4", "X Y", 1), made("f(1) g(2) X h(1) Y", "0 1 1 3 4 4", "X Y", 0), made("f(1) g(2) X h(1) Y", "0 1 1 3 4 4", "X Y", 3), made("f(1) g(2) X h(1) Y", "0 1 1 3 4 4", "X y", 1),
			made("f(1) f(0) a a", "2 3 0 1", "_ _", 1), made("f(1) f(0) a a", "2 3 0 9", "_ _", 0), made("f(1) f(7) a a", "2 3 0 1", "_ _", 0), made("a", "0", "Only", 0), made("X a", "0 1", "", 1), made("X a", "0 1", "", -1),
		} {
			x.Proofs = []api.Proof{{Kind: 1, Parent: -1, Rule: 3}, {Kind: 2}}
			x = roomyAnswer(x)
			before := wholeAnswer(x)
			text, err := s.Show(x)
			if wholeAnswer(x) != before {
				t.Fatalf("what was handed in was %s and is %s", before, wholeAnswer(x))
			}
			again, err2 := s.Show(x)
			said := strings.Clone(text) + tell(err)
			overwriteAnswer(x)
			if text+tell(err) != said || again+tell(err2) != said {
				t.Fatalf("%s shares memory with what was handed in", said)
			}
		}
	}
	// Names and texts are copies.
	name := written("Name")
	atom := written("atom")
	text, err := fresh(t, 1).Show(api.Answer{Graph: api.Graph{Nodes: []api.Node{a(atom.text)}, Roots: []int{0}}, Vars: []string{name.text}})
	name.overwrite()
	atom.overwrite()
	if text != "Name = atom" || err != nil {
		t.Error(text, err)
	}
}

// region is the memory of a list.
type region struct {
	what       string
	begin, end uintptr
}

func regionOf[T any](what string, list []T) region {
	var one T
	begin := uintptr(unsafe.Pointer(unsafe.SliceData(list)))
	return region{what, begin, begin + uintptr(cap(list))*unsafe.Sizeof(one)}
}

// P19.4: what is answered twice shares no memory, nor do the lists of one answer.
func TestAnsweredTwice(t *testing.T) {
	s := asked(t, 5000, whole, "member(X, [f(Y,Z),g(Y,f(Y,a)),Z]), dif(X, Y).")
	var taken []region
	var texts []*byte
	for range 3 {
		text, ok, err := s.Next(100)
		if !ok || err != nil {
			t.Fatal(ok, err)
		}
		texts = append(texts, unsafe.StringData(text))
		for range 3 {
			answer, err := s.Answer()
			if err != nil {
				t.Fatal(err)
			}
			again, err := s.Show(answer)
			if again != text || err != nil {
				t.Fatal(again, text, err)
			}
			texts = append(texts, unsafe.StringData(again))
			taken = append(taken, regionOf("roots", answer.Graph.Roots), regionOf("nodes", answer.Graph.Nodes), regionOf("vars", answer.Vars), regionOf("proofs", answer.Proofs), regionOf("preds", s.Preds()))
			for _, m := range answer.Graph.Nodes {
				taken = append(taken, regionOf("arguments", m.Args))
			}
			for _, p := range s.Preds() {
				texts = append(texts, unsafe.StringData(p))
			}
		}
	}
	taken = slices.DeleteFunc(taken, func(r region) bool { return r.begin == r.end })
	slices.SortFunc(taken, func(a, b region) int { return int(a.begin) - int(b.begin) })
	for i := range len(taken) - 1 {
		if taken[i].end > taken[i+1].begin {
			t.Errorf("%s and %s share memory", taken[i].what, taken[i+1].what)
		}
	}
	for i, at := range texts {
		if slices.Contains(texts[:i], at) {
			t.Error("a text is told in memory that was answered ahead")
		}
	}
	if len(taken) < 50 || len(texts) < 20 {
		t.Error(len(taken), len(texts))
	}
}

// P19.4: an answer that is written over changes none that comes behind it.
func TestWrittenOver(t *testing.T) {
	one, other := asked(t, 5000, whole, "member(X, [f(Y,Z),g(Y,f(Y,a)),Z]), dif(X, Y)."), asked(t, 5000, whole, "member(X, [f(Y,Z),g(Y,f(Y,a)),Z]), dif(X, Y).")
	for range 4 {
		now := step{call: "next", budget: 100}
		if got, want := played(one, now), played(other, now); got != want {
			t.Fatal(short(got), short(want))
		}
		for range 2 {
			if answer, err := one.Answer(); err == nil {
				overwriteAnswer(answer)
			}
			for i, list := 0, room(one.Preds()); i < len(list); i++ {
				list[i] = "over"
			}
			if _, _, err := one.Next(-1); err == nil {
				if _, _, err := other.Next(-1); err != nil {
					t.Fatal(err)
				}
			} else {
				f := err.(*api.Fault)
				*f.Cause.(*api.Fault) = api.Fault{Code: -5, At: -5, Name: "over"}
				*f = api.Fault{}
				if _, _, err := other.Next(-1); err == nil {
					t.Fatal("answered")
				}
			}
		}
	}
}

// held is how many bytes are in use when all that nobody holds any more is given back.
func held() uint64 {
	var m runtime.MemStats
	runtime.GC()
	runtime.ReadMemStats(&m)
	return m.HeapAlloc
}

// P19.4: neither sources are kept nor what Show is handed; and no query is kept that is gone.
func TestNothingIsKept(t *testing.T) {
	list := "[" + strings.TrimSuffix(repeated("x(#),", 600), ",") + "]"
	ends := []func(s *session.Session) error{
		func(s *session.Session) error { return s.Query("m(X") },
		func(s *session.Session) error { return s.Query("unknown.") },
		func(s *session.Session) error { return s.Load(sample) },
		func(s *session.Session) error {
			return s.Query("m(" + strings.Repeat("[", 3000) + strings.Repeat("]", 3000) + ", X).")
		},
	}
	var all []*session.Session
	call := func(i int) {
		s := asked(t, mostWords, sample, strings.Repeat(" ", 1<<20)+"m(X, "+list+"), m(Y, "+list+").")
		wantShow(t, s, made("a", "0", "X", 0), "X = a")
		for range 3 {
			if _, ok, err := s.Next(9); !ok || err != nil {
				t.Fatal(ok, err)
			}
		}
		ends[i%len(ends)](s)
		wantNoQuery(t, s)
		all = append(all, s)
	}
	call(0)
	before := held()
	for i := range 40 {
		call(i)
	}
	if after := held(); after > before+2<<20 {
		t.Errorf("%d bytes are held", after-before)
	}
	runtime.KeepAlive(all)
}

// R9: what is answered hangs on the session alone, whoever else has one at the same time.
func TestAtTheSameTime(t *testing.T) {
	once := func(seed int) string {
		d := dice(seed + 900000)
		programs := []string{d.program(), d.program()}
		s, err := session.New(200)
		if err != nil {
			return err.Error()
		}
		out := played(s, step{call: "load", source: programs[0]})
		for range 15 {
			out += played(s, d.scatteredStep(programs))
		}
		return out
	}
	want := make([]string, 100)
	for seed := range want {
		want[seed] = once(seed)
	}
	var wait sync.WaitGroup
	for range 8 {
		wait.Go(func() {
			for seed := range want {
				if got := once(seed); got != want[seed] {
					t.Errorf("seed %d: %s, want %s", seed, got, want[seed])
				}
			}
		})
	}
	wait.Wait()
}
