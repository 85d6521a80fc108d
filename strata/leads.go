package strata

import (
	"math/bits"

	"tendril/api"
)

// set is a set of predicates, a bit for each.
type set [(api.MaxPreds + 63) / 64]uint64

func (s *set) add(p int) { s[p/64] |= 1 << (p % 64) }

func (s *set) join(t set) {
	for i := range s {
		s[i] |= t[i]
	}
}

func (s set) has(p int) bool { return s[p/64]>>(p%64)&1 == 1 }

func (s set) size() int {
	n := 0
	for _, w := range s {
		n += bits.OnesCount64(w)
	}
	return n
}

// leadsOf is, for each predicate of a good code, the set of itself and of all to which it leads by calls.
func leadsOf(c api.Code) []set {
	leads := make([]set, len(c.Preds))
	for p := range leads {
		leads[p].add(p)
	}
	for _, r := range c.Rules {
		for _, s := range r.Goals {
			if s.Kind == api.GoalCall {
				leads[r.Pred].add(s.Pred)
			}
		}
	}
	// Behind the round of a predicate the sets tell all paths over it and those ahead of it.
	for over := range leads {
		for p := range leads {
			if leads[p].has(over) {
				leads[p].join(leads[over])
			}
		}
	}
	return leads
}

// together tells whether two predicates are in one circle.
func together(leads []set, p, q int) bool { return leads[p].has(q) && leads[q].has(p) }
