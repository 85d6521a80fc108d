package machine_test

import (
	"slices"
	"strconv"
	"strings"
	"testing"

	"tendril/api"
)

// dice is a row of numbers that look scattered, and are the same each time.
type dice uint64

func (d *dice) below(n int) int {
	*d = *d*6364136223846793005 + 1442695040888963407
	x := uint64(*d)
	x ^= x >> 29
	x *= 0xbf58476d1ce4e5b9
	x ^= x >> 32
	return int(x % uint64(n))
}

func (d *dice) one(list ...string) string { return list[d.below(len(list))] }

// term is a term of few names, so that often two can be one.
func (d *dice) term(deep int) string {
	if deep == 0 || d.below(3) > 0 {
		return d.one("X", "Y", "Z", "X", "Y", "X", "Y", "Z", "W", "a", "a", "b", "0")
	}
	switch d.below(5) {
	case 0:
		return "g(" + d.terms(2, deep-1) + ")"
	case 1:
		return "[" + d.term(deep-1) + "|" + d.term(deep-1) + "]"
	}
	return d.one("f", "f", "g") + "(" + d.term(deep-1) + ")"
}

func (d *dice) terms(count, deep int) string {
	var out []string
	for range count {
		out = append(out, d.term(deep))
	}
	return strings.Join(out, ",")
}

// signs is predicates: names with numbers of arguments.
var signs = []struct {
	name  string
	arity int
}{{"p", 1}, {"q", 2}, {"r", 1}, {"z", 0}, {"p", 3}}

func (d *dice) call() string {
	s := signs[d.below(len(signs))]
	if s.arity == 0 {
		return s.name
	}
	return s.name + "(" + d.terms(s.arity, 2) + ")"
}

func (d *dice) goal() string {
	switch d.below(8) {
	case 0:
		return d.one("X", "Y", "Z") + " = " + d.term(2)
	case 1:
		return "dif(" + d.one("X", "Y", "Z") + ", " + d.term(2) + ")"
	}
	return d.call()
}

func (d *dice) goals(count int) string {
	var out []string
	for range count {
		out = append(out, d.goal())
	}
	return strings.Join(out, ", ")
}

// program is a program in which each predicate is declared or has a clause.
func (d *dice) program() string {
	var out []string
	for _, s := range signs {
		if d.below(2) == 0 {
			out = append(out, "co "+s.name+"/"+strconv.Itoa(s.arity)+".")
		} else if s.arity == 0 {
			out = append(out, s.name+".")
		} else {
			out = append(out, s.name+"("+d.terms(s.arity, 2)+").")
		}
	}
	for range 4 + d.below(6) {
		clause := d.call()
		if count := d.below(3); count > 0 {
			clause += " :- " + d.goals(count)
		}
		out = append(out, clause+".")
	}
	return strings.Join(out, " ")
}

// scattered is a script of a scattered program and query.
func scattered(seed, most int) (*script, *dice) {
	d := dice(seed)
	program := d.program()
	asked := ""
	if d.below(20) > 0 {
		asked = d.goals(1+d.below(3)) + "."
	}
	return scriptOf(program, asked, most), &d
}

// budgets is some budgets.
func (d *dice) budgets() []int {
	var out []int
	for range 1 + d.below(4) {
		out = append(out, d.below(8)-1)
	}
	return append(out, 1+d.below(12))
}

// P18.1 to P18.5: scattered programs and queries: with scattered budgets and compactions, in ample stores and in small ones.
func TestManyPrograms(t *testing.T) {
	answers, ends, rooms, calls, open := 0, 0, 0, 0, 0
	for seed := range 4000 {
		s, d := scattered(seed, 25)
		sometimes := func(p *player) {
			if d.below(3) == 0 {
				p.compact()
			}
		}
		ample := s.ample()
		if !s.play(t, ample, d.budgets(), sometimes) {
			t.Fatalf("%s: no room in %d words", s.text, ample)
		}
		for range 3 {
			size := 1 + d.below(min(ample, 120))
			if !s.play(t, size, d.budgets(), sometimes) {
				rooms++
			}
		}
		for _, e := range s.events {
			switch e.kind {
			case isAnswer:
				answers++
				open += e.answer.Difs
				for _, p := range e.answer.Proofs {
					if p.Hyp >= 0 {
						calls++
					}
				}
			case isEnd:
				ends++
			}
		}
	}
	if answers < 5000 || ends < 1500 || rooms < 1500 || calls < 1500 || open < 1500 {
		t.Errorf("%d answers, %d ends, %d without room, %d by a call above, %d open", answers, ends, rooms, calls, open)
	}
}

// P18.1, P18.2: longer rows, and each size of the store.
func TestManySizes(t *testing.T) {
	for seed := range 40 {
		s, _ := scattered(seed+100000, 60)
		s.playAll(t)
	}
}

// P18.1: calls in any order: a query is asked anew in the middle of another one, of this or another program, or is refused; what comes behind it is the same.
func TestAnyOrder(t *testing.T) {
	refused, anew := 0, 0
	for seed := range 800 {
		s, d := scattered(seed+200000, 20)
		p := s.player(t, s.ample())
		for range 12 {
			switch d.below(8) {
			case 0:
				// Another query of the same machine.
				r, names := api.Rule{Pred: -1, Goals: slices.Clone(s.rule.Goals[:0])}, []string(nil)
				if err := p.m.Ask(r, names); err != nil {
					t.Fatal(err)
				}
				wantNext(t, p.m, d.below(5), true, 0)
				wantNext(t, p.m, d.below(5), false, 0)
				p.ask()
				anew++
			case 1:
				r := s.rule
				r.Pred = d.below(3)
				if err := p.m.Ask(r, s.vars); !isFault(err, errCode, -1, errTemplate, -1) {
					t.Fatal(err)
				}
				wantNoQuery(t, p.m)
				p.ask()
				refused++
			case 2:
				p.ask()
				anew++
			case 3:
				p.compact()
			default:
				if p.left() {
					p.next(min(d.below(6)-1, max(p.most-p.done, 1)))
				}
			}
		}
		p.goOn(d.budgets(), func(p *player) {})
	}
	if refused < 500 || anew < 1000 {
		t.Error(refused, anew)
	}
}

// P18.2: two machines of one code, each with its own budgets and compactions, come to the same answers, one after the other.
func TestTwoMachines(t *testing.T) {
	for seed := range 300 {
		s, d := scattered(seed+300000, 20)
		one, other := s.player(t, s.ample()), s.player(t, s.ample())
		for one.left() || other.left() {
			p := one
			if !one.left() || other.left() && d.below(2) == 0 {
				p = other
			}
			if d.below(4) == 0 {
				p.compact()
			}
			if !p.next(min(d.below(6)-1, max(p.most-p.done, 1))) {
				t.Fatal("no room")
			}
		}
	}
}
