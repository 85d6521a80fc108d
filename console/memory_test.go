package console_test

import (
	"runtime"
	"strings"
	"sync"
	"testing"
	"unsafe"

	"tendril/console"
)

// paper is a text whose memory can be written over.
type paper struct {
	text  string
	bytes []byte
}

func written(text string) paper {
	bytes := append([]byte(text), ' ')
	return paper{unsafe.String(&bytes[0], len(text)), bytes}
}

func (p paper) overwrite() {
	for i := range p.bytes {
		p.bytes[i] = '%'
	}
}

// R6: texts are neither changed nor kept: what is told is the same when their memory is written over, and none of it lies in that.
func TestTextsAreNotKept(t *testing.T) {
	for seed := range 500 {
		d := dice(seed + 600000)
		one, other := open(t, 1000), open(t, 1000)
		var papers []paper
		var told, wanted []string
		for range 6 {
			text := d.text()
			paper := written(text)
			told, wanted = append(told, one.Run(paper.text)), append(wanted, strings.Clone(other.Run(text)))
			if string(paper.bytes) != text+" " {
				t.Fatalf("seed %d: %q was changed to %q", seed, text, paper.bytes)
			}
			for _, p := range append(papers, paper) {
				p.overwrite()
			}
			papers = append(papers, paper)
		}
		for i := range told {
			if told[i] != wanted[i] {
				t.Fatalf("seed %d: %q, want %q", seed, told[i], wanted[i])
			}
		}
	}
	// A line that is told as it was handed in is told in memory of its own.
	for _, text := range []string{"show a", "frob", "show 'A'", "show [1,2|V1], E1"} {
		paper := written(text)
		told := open(t, 10).Run(paper.text)
		want := strings.Clone(told)
		paper.overwrite()
		if told != want {
			t.Errorf("%q, was %q", told, want)
		}
	}
}

// R6: what is told twice lies in memory of its own each time.
func TestToldTwice(t *testing.T) {
	c := open(t, 1000)
	c.Run(member + "ask m(X, [a]).\nnext")
	begin := func(text string) uintptr { return uintptr(unsafe.Pointer(unsafe.StringData(text))) }
	for _, text := range []string{"preds", "proof", "used", "show a", "frob", "preds\nproof"} {
		one, other := c.Run(text), c.Run(text)
		if one != other || one == "" || begin(one) == begin(other) {
			t.Errorf("%q, %q", one, other)
		}
		runtime.KeepAlive(one)
	}
}

// held is how many bytes are in use when all that nobody holds any more is given back.
func held() uint64 {
	var m runtime.MemStats
	runtime.GC()
	runtime.ReadMemStats(&m)
	return m.HeapAlloc
}

// R6: neither texts are kept nor what was told of them.
func TestNothingIsKept(t *testing.T) {
	var all []*console.Console
	call := func() {
		c := open(t, 100)
		c.Run(strings.Repeat(" ", 1<<20) + "load p(a). p(X) :- p(X).\n" + "ask p(X)." + strings.Repeat("\t", 1<<20))
		c.Run("all 20000 9\nshow " + list("a#", 4000) + "\nfrob" + strings.Repeat("x", 1<<20))
		all = append(all, c)
	}
	call()
	before := held()
	for range 20 {
		call()
	}
	if after := held(); after > before+4<<20 {
		t.Errorf("%d bytes are held", after-before)
	}
	runtime.KeepAlive(all)
}

// R9: what is told hangs on the console and the text alone, whoever else has one at the same time.
func TestAtTheSameTime(t *testing.T) {
	once := func(seed int) string {
		d := dice(seed + 700000)
		c, err := console.Open(200)
		if err != nil {
			return err.Error()
		}
		return c.Run(d.text()) + c.Run(d.text())
	}
	want := make([]string, 100)
	for seed := range want {
		want[seed] = once(seed)
	}
	var wait sync.WaitGroup
	for range 8 {
		wait.Go(func() {
			for seed := range want {
				if got := once(seed); got != want[seed] {
					t.Errorf("seed %d: %s, want %s", seed, got, want[seed])
				}
			}
		})
	}
	wait.Wait()
}
