package console

import (
	"errors"
	"iter"
	"strconv"
	"strings"

	"tendril/api"
	"tendril/show"
)

// Tell is the line of an error.
func Tell(err error) string {
	if err == nil {
		return "ok"
	}
	var out strings.Builder
	out.WriteString("error")
	ahead := " "
	for f := range causes(err) {
		out.WriteString(ahead)
		out.WriteString(faultText(f))
		ahead = " by "
	}
	return out.String()
}

// causes gives the fault that an error is or wraps, then its Cause, and so on.
func causes(err error) iter.Seq[*api.Fault] {
	return func(yield func(*api.Fault) bool) {
		// Causes that go round in a circle are given once, as they would never end.
		given := map[*api.Fault]struct{}{}
		for f := faultOf(err); f != nil; f = faultOf(f.Cause) {
			if _, again := given[f]; again || !yield(f) {
				return
			}
			given[f] = struct{}{}
		}
	}
}

// faultOf is the fault that an error is or wraps, else nil.
func faultOf(err error) (found *api.Fault) {
	// An error that comes from elsewhere may panic where it is asked what it wraps.
	defer func() {
		if recover() != nil {
			found = nil
		}
	}()
	if !errors.As(err, &found) {
		return nil
	}
	return found
}

// faultText is the text of a fault without its causes.
func faultText(f *api.Fault) string {
	out := strconv.Itoa(int(f.Code))
	if f.At >= 0 {
		out += " at " + strconv.Itoa(f.At)
	}
	if f.Name != "" {
		out += " of " + f.Name
	}
	return out
}

// proofs is the lines of an answer's proofs, of a program with these predicates.
func proofs(list []api.Proof, preds []string) []string {
	var out []string
	for i, p := range list {
		out = append(out, strconv.Itoa(i)+" "+goalText(p, preds)+wayText(p)+" in "+parentText(p)+" "+strconv.Itoa(p.Place))
	}
	return out
}

// goalText is what a proof is a proof of.
func goalText(p api.Proof, preds []string) string {
	switch p.Kind {
	case api.GoalEq:
		return "="
	case api.GoalDif:
		return "dif"
	}
	return strings.TrimPrefix(preds[p.Pred], "co ")
}

// wayText is by what a call was proved.
func wayText(p api.Proof) string {
	switch {
	case p.Rule >= 0:
		return " by clause " + strconv.Itoa(p.Rule)
	case p.Hyp >= 0:
		return " by call " + strconv.Itoa(p.Hyp)
	}
	return ""
}

func parentText(p api.Proof) string {
	if p.Parent < 0 {
		return "query"
	}
	return strconv.Itoa(p.Parent)
}

// shown is the line of a graph.
func shown(g api.Graph) ([]string, error) {
	text, err := show.Text(g)
	if err != nil {
		return nil, err
	}
	return []string{text}, nil
}

// verdict is a verdict's word.
func verdict(kind int) string {
	switch kind {
	case api.DifApart:
		return "apart"
	case api.DifSame:
		return "same"
	}
	return "open"
}
