package machine_test

import (
	"errors"
	"strconv"
	"testing"

	"tendril/api"
	"tendril/machine"
)

// script is a query of a code with what becomes of it.
type script struct {
	text string
	code api.Code
	rule api.Rule
	vars []string
	*oracle
}

func scriptOf(program, asked string, most int) *script {
	x := compiled(program)
	r, names := rule(x, asked)
	return &script{program + " ?- " + asked, x, r, names, foretold(x, r, names, most)}
}

// ample is a size at which there is always room.
func (s *script) ample() int {
	greatest := 0
	for _, r := range s.code.Rules {
		greatest = max(greatest, words(r.Graph))
	}
	return max(words(s.rule.Graph)+s.most*greatest, 1)
}

// player plays a script with a machine, and holds each answer against what was foretold.
type player struct {
	*script
	t    *testing.T
	m    *machine.Machine
	size int
	done int // attempts
	came int // events
}

// player is one that has asked the query, or none if there was no room for it.
func (s *script) player(t *testing.T, size int) *player {
	t.Helper()
	p := &player{script: s, t: t, m: made(t, s.code, size), size: size}
	if !p.ask() {
		return nil
	}
	return p
}

// ask asks the query anew, and tells whether there was room for it.
func (p *player) ask() bool {
	p.t.Helper()
	p.done, p.came = 0, 0
	err := p.m.Ask(p.rule, p.vars)
	if want := words(p.rule.Graph); want > p.size {
		if !isFault(err, errHeap, want, errRoom, want, errFull, want) {
			p.fail("Ask: ", err)
		}
		return false
	}
	if err != nil {
		p.fail("Ask: ", err)
	}
	// Where no attempt is ever made it isn't foretold how all is ahead of one.
	want := p.state()
	if len(p.then) > 0 {
		want = p.then[0]
	}
	p.wantState(want)
	wantNone(p.t, p.m, errNoMore)
	return true
}

// state is what the machine's cells hold.
func (p *player) state() string { return laidOpen{p.m.Dump()}.text(p.m.Roots(), len(p.vars)) }

func (p *player) fail(what ...any) {
	p.t.Helper()
	p.t.Fatal(append([]any{short(p.text), ", ", p.size, " words, behind ", p.done, " attempts and ", p.came, " events: "}, what...)...)
}

// wantState stops the test unless the words are sound, and the cells hold what they should.
func (p *player) wantState(want string) {
	p.t.Helper()
	d := laidOpen{p.m.Dump()}
	if why := d.unsound(); why != "" {
		p.fail(why)
	}
	if got := d.text(p.m.Roots(), len(p.vars)); got != want {
		p.fail("the cells hold ", got, ", want ", want)
	}
	if p.m.Used() != p.done {
		p.fail("Used ", p.m.Used())
	}
}

// left tells whether anything is foretold that did not come yet.
func (p *player) left() bool { return p.came < len(p.events) || p.over && p.done < p.most && p.open() }

// open tells whether what is foretold breaks off between two attempts.
func (p *player) open() bool {
	n := len(p.events)
	return n == 0 || p.events[n-1].kind == isAnswer
}

// comes tells whether the next event comes with so much fuel. Too many disequalities are met where an attempt is to be made, the others behind one.
func (p *player) comes(fuel int) bool {
	if p.came == len(p.events) {
		return false
	}
	e := p.events[p.came]
	return e.used < p.done+fuel || e.used == p.done+fuel && e.kind != isTooManyDifs
}

// next calls Next, and tells whether there was room.
func (p *player) next(budget int) bool {
	p.t.Helper()
	fuel := min(max(budget, 1), mostFuel)
	ok, err := p.m.Next(budget)
	// A fault is new memory: what is written into it behind this changes nothing.
	defer overwriteFault(err)
	if errors.Is(err, api.ErrHeap) {
		p.wantHeap(ok, err, fuel)
		return false
	}
	if !p.comes(fuel) {
		if p.done+fuel > p.most {
			p.fail("the play is over")
		}
		p.done += fuel
		if ok || !isFault(err, errFuel, -1) {
			p.fail("Next(", budget, ") = ", ok, ", ", err, ", want ErrFuel")
		}
		wantNone(p.t, p.m, errNoMore)
		p.wantState(p.then[p.done])
		return true
	}
	e := p.events[p.came]
	p.done = e.used
	switch e.kind {
	case isAnswer:
		if !ok || err != nil {
			p.fail("Next(", budget, ") = ", ok, ", ", err, ", want true")
		}
		p.wantAnswer(e.answer)
	case isEnd:
		if ok || err != nil {
			p.fail("Next(", budget, ") = ", ok, ", ", err, ", want false")
		}
		wantNone(p.t, p.m, errNoMore)
		p.wantState(p.state())
	case isTooManyDifs:
		if ok || !isFault(err, errDifs, mostDifs) {
			p.fail("Next(", budget, ") = ", ok, ", ", err, ", want ErrDifs")
		}
		wantNone(p.t, p.m, errNoMore)
		p.wantState(p.then[p.done])
	}
	p.came++
	return true
}

// wantAnswer stops the test unless the answer is the one that was foretold, each time it is asked for, and is proved.
func (p *player) wantAnswer(want api.Answer) {
	p.t.Helper()
	want.Vars = p.vars
	for range 2 {
		a := answer(p.t, p.m)
		if got := tellingAnswer(a); got != tellingAnswer(want) {
			p.fail("Answer is ", got, ", want ", tellingAnswer(want))
		}
		if why := notProved(p.code, p.rule, a); why != "" {
			p.fail(why)
		}
		p.wantState(strconv.Itoa(a.Difs) + " open, " + telling(a.Graph))
	}
}

// wantHeap stops the test unless a fault says that there is no room, with reason: for the next attempt's clause, with all that isn't wanted taken out. It is said again, however often one asks.
func (p *player) wantHeap(ok bool, err error, fuel int) {
	p.t.Helper()
	for range 3 {
		used := p.m.Used()
		if used < p.done || used >= p.done+fuel || used >= len(p.then) || p.came < len(p.events) && used >= p.events[p.came].used {
			p.fail("Used ", used, " with ErrHeap")
		}
		p.done, fuel = used, 1
		want := p.wants[used]
		if ok || want == 0 || !isFault(err, errHeap, want, errRoom, want, errFull, want) {
			p.fail(ok, ", ", err, ", want ErrHeap of ", want, " words")
		}
		wantNone(p.t, p.m, errNoMore)
		p.wantState(p.then[used])
		d := laidOpen{p.m.Dump()}
		if wanted := d.wanted(p.m.Roots()); wanted != len(d.Words) || wanted+want <= p.size {
			p.fail(wanted, " of ", len(d.Words), " words are wanted, and ", want)
		}
		ok, err = p.m.Next(used % 3)
	}
}

// compact calls Compact, and stops the test unless just those words stay that are wanted, and all is as it was.
func (p *player) compact() {
	p.t.Helper()
	before := laidOpen{p.m.Dump()}
	roots := p.m.Roots()
	state := p.state()
	a, err := p.m.Answer()
	for range 2 {
		top, no := p.m.Compact()
		now := laidOpen{p.m.Dump()}
		if no != nil || top != len(now.Words) || top != before.wanted(roots) || len(p.m.Roots()) != len(roots) || len(now.Marks) != len(before.Marks) {
			p.fail("Compact = ", top, ", ", no)
		}
		p.wantState(state)
		b, again := p.m.Answer()
		if (err == nil) != (again == nil) || tellingAnswer(a) != tellingAnswer(b) {
			p.fail("behind Compact the answer is ", tellingAnswer(b), again, ", and was ", tellingAnswer(a), err)
		}
	}
}

// play plays the script with these budgets, one after the other and then from the beginning, and with what is done ahead of each call. It tells whether there was room for all.
func (s *script) play(t *testing.T, size int, budgets []int, between func(p *player)) bool {
	t.Helper()
	p := s.player(t, size)
	if p == nil {
		return false
	}
	return p.goOn(budgets, between)
}

// goOn plays what is left of the script.
func (p *player) goOn(budgets []int, between func(p *player)) bool {
	p.t.Helper()
	for i := 0; p.left(); i++ {
		between(p)
		if !p.next(min(budgets[i%len(budgets)], max(p.most-p.done, 1))) {
			return false
		}
	}
	// Behind the end there is no other answer.
	if n := len(p.events); n > 0 && p.events[n-1].kind == isEnd {
		for _, budget := range []int{1, -1, mostFuel} {
			between(p)
			p.came--
			p.next(budget)
		}
	}
	return true
}

func nothing(*player) {}

// playAll plays the script in ample stores with several budgets, with compactions, and in stores of each size.
func (s *script) playAll(t *testing.T) {
	t.Helper()
	ample := s.ample()
	for _, budgets := range [][]int{{1}, {2}, {3, 1}, {s.most}, {1, 5, 2, 9}} {
		if !s.play(t, ample, budgets, nothing) {
			t.Fatalf("%s: no room in %d words", short(s.text), ample)
		}
		if !s.play(t, ample, budgets, (*player).compact) {
			t.Fatalf("%s: no room in %d words", short(s.text), ample)
		}
	}
	room, compacted := 0, 0
	for size := 1; room < 3; size++ {
		// Words that are wanted hang neither on the budgets nor on compactions.
		if s.play(t, size, []int{s.most}, nothing) {
			room++
		} else if room > 0 {
			t.Fatalf("%s: no room in %d words, but in fewer", s.text, size)
		}
		if s.play(t, size, []int{4, 1}, (*player).compact) {
			compacted++
		}
		if room != compacted {
			t.Fatalf("%s: in %d words it hangs on compactions whether there is room", s.text, size)
		}
	}
}
