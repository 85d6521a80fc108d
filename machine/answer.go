package machine

import (
	"slices"

	"tendril/api"
)

// answer is the answer to which the run has come.
func (r *run) answer() (api.Answer, error) {
	out := api.Answer{Vars: cloned(r.vars)}
	cells := slices.Clone(r.cells)
	for _, pair := range r.store.Difs() {
		cells = append(cells, pair[0], pair[1])
		out.Difs++
	}
	for _, g := range r.goals {
		g.First, g.Count = len(cells), len(g.cells)
		cells = append(cells, g.cells...)
		out.Proofs = append(out.Proofs, g.Proof)
	}
	var err error
	if out.Graph, err = r.store.Get(cells...); err != nil {
		return api.Answer{}, caused(api.ErrAnswer, err)
	}
	return out, nil
}
