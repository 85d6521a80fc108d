package strata_test

import (
	"regexp"
	"slices"
	"strconv"
	"strings"

	"tendril/api"
)

// Here is what the chapter says, found by its words.

var plain = regexp.MustCompile(`^[a-z][A-Za-z0-9_]{0,31}$`)

// sign is a predicate's name as it is written.
func sign(p api.Pred) string {
	name := p.Name
	if !plain.MatchString(name) {
		name = "'" + strings.NewReplacer(`'`, `\'`, `\`, `\\`).Replace(name) + "'"
	}
	return name + "/" + strconv.Itoa(p.Arity)
}

// netOf is the calls of a good code.
func netOf(x api.Code) net {
	n := make(net, len(x.Preds))
	for p, pred := range x.Preds {
		for _, k := range pred.Clauses {
			for _, s := range x.Rules[k].Goals {
				if s.Kind == call {
					n[p] = append(n[p], s.Pred)
				}
			}
		}
	}
	return n
}

// from is those to which a predicate leads by one call or more: all paths are gone, but none on from where one has been.
func (n net) from(pred int) []bool {
	been := make([]bool, len(n))
	var walk func(p int)
	walk = func(p int) {
		for _, q := range n[p] {
			if !been[q] {
				been[q] = true
				walk(q)
			}
		}
	}
	walk(pred)
	return been
}

// circles is what Circles must answer.
func (n net) circles() []int {
	var leads [][]bool
	for p := range n {
		leads = append(leads, n.from(p))
	}
	var out []int
	for p := range n {
		least := 0
		for least != p && !(leads[p][least] && leads[least][p]) {
			least++
		}
		out = append(out, least)
	}
	return out
}

// levels is what Levels must answer.
func (n net) levels() []int {
	circles := n.circles()
	known := slices.Repeat([]int{-1}, len(n))
	var level func(circle int) int
	level = func(circle int) int {
		if known[circle] >= 0 {
			return known[circle]
		}
		greatest := 0
		for p, called := range n {
			for _, q := range called {
				if circles[p] == circle && circles[q] != circle {
					greatest = max(greatest, 1+level(circles[q]))
				}
			}
		}
		known[circle] = greatest
		return greatest
	}
	var out []int
	for _, circle := range circles {
		out = append(out, level(circle))
	}
	return out
}

// mixed is the first predicate in whose circle both kinds stand.
func mixed(preds []api.Pred, circles []int) int {
	for p := range preds {
		for q := range preds {
			if circles[p] == circles[q] && preds[p].Co != preds[q].Co {
				return p
			}
		}
	}
	return fine
}

// dice is a row of numbers that look scattered, and are the same each time.
type dice uint64

func (d *dice) below(n int) int {
	*d = *d*6364136223846793005 + 1442695040888963407
	x := uint64(*d)
	x ^= x >> 29
	x *= 0xbf58476d1ce4e5b9
	x ^= x >> 32
	return int(x % uint64(n))
}

// shuffled is numbers from 0 on, in a scattered order.
func (d *dice) shuffled(count int) []int {
	out := upTo(count)
	for i := range out {
		j := d.below(i + 1)
		out[i], out[j] = out[j], out[i]
	}
	return out
}

// net is some calls between so many predicates. They stand in a row, of which pieces are circles; few other calls lead forwards, so that there are many circles and levels.
func (d *dice) net(count int) net {
	n := make(net, count)
	row, forwards := d.shuffled(count), d.below(6)
	for start := 0; start < count; {
		end := min(count, start+1+d.below(5))
		for i := start; i < end && d.below(6) > 0; i++ {
			n[row[i]] = append(n[row[i]], row[start+(i+1-start)%(end-start)])
		}
		start = end
	}
	for range d.below(2 * count) {
		p, q := d.below(count), d.below(count)
		if p < q && d.below(60) >= forwards {
			p, q = q, p
		}
		if p, q = row[p], row[q]; len(n[p]) < 12 {
			n[p] = append(n[p], q)
		}
	}
	return n
}

// code is a code with the calls of a net, in scattered form: predicates with arguments, of any names, one rule or two of each, mostly, with equations and disequalities between the calls.
func (d *dice) code(n net) api.Code {
	var x api.Code
	for p := range n {
		name := []string{"p", "q_", "Q", "it's", `\`, "[]", "dif"}[d.below(7)] + strconv.Itoa(p)
		x.Preds = append(x.Preds, api.Pred{Name: name, Arity: d.below(9)})
	}
	var bodies [][]api.Step
	for _, called := range n {
		var one, two []api.Step
		for _, q := range called {
			s := api.Step{Kind: call, Pred: q}
			if where := d.below(3); where > 0 {
				one = append(one, s)
			} else {
				two = append(two, s)
			}
			if d.below(4) == 0 {
				one = append(one, api.Step{Kind: eq + d.below(2), Pred: -1})
			}
		}
		bodies = append(bodies, one, two)
	}
	for _, i := range d.shuffled(len(bodies)) {
		if len(bodies[i]) > 0 || d.below(2) == 0 {
			addRule(&x, i/2, bodies[i])
		}
	}
	return x
}

// mark makes predicates coinductive: none, some, or some whole circles, but for a few predicates then.
func (d *dice) mark(preds []api.Pred, circles []int) {
	few := d.below(3)
	for p := range preds {
		switch few {
		case 0:
			preds[p].Co = d.below(2) == 0
		case 1:
			preds[p].Co = circles[p]%3 == 1
		default:
			preds[p].Co = (circles[p]%2 == 0) != (d.below(len(preds)) == 0)
		}
	}
}
