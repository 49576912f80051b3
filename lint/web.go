package lint

import "stile/tract"

// A step leads from a relation to one that it hangs on.
type step struct {
	to  int
	odd bool
}

// A web has of each relation, at its place, the steps.
type web [][]step

// web: the one of a configuration without faults.
func (l layout) web() web {
	w := make(web, len(l.rels))
	for k, r := range l.rels {
		w[k] = append(l.stepsOfThis(r), l.stepsOfRefs(r)...)
	}
	return w
}

// stepsOfThis: those of what a relation allows, if its expression asks for it.
func (l layout) stepsOfThis(r relation) []step {
	var steps []step
	for _, odd := range []bool{false, true} {
		if !tract.Direct(r.expr, odd) {
			continue
		}
		for _, a := range r.rel.Allow {
			if a.Relation != "" {
				steps = append(steps, step{l.places[Spot{a.Type, a.Relation}], odd})
			}
		}
	}
	return steps
}

// stepsOfRefs: those of a relation's references.
func (l layout) stepsOfRefs(r relation) []step {
	var steps []step
	for _, ref := range tract.Refs(r.expr) {
		for _, typ := range l.ledTo(r.spot.Type, ref) {
			steps = append(steps, step{l.places[Spot{typ, ref.Relation}], ref.Odd})
		}
	}
	return steps
}

// ledTo: the types whose relation a reference of a type's names: the type
// itself, or those to which an arrow leads.
func (l layout) ledTo(typ string, ref tract.Ref) []string {
	if ref.Via == "" {
		return []string{typ}
	}
	var types []string
	for _, a := range l.rels[l.places[Spot{typ, ref.Via}]].rel.Allow {
		types = append(types, a.Type)
	}
	return types
}

// A stand is where a way has come to, and whether a step on it was odd.
type stand struct {
	at  int
	odd bool
}

// turns: does a relation hang on itself by a way on which there is an odd step?
func (w web) turns(from int) bool {
	rest := []stand{{from, false}}
	came := map[stand]int{}
	for len(rest) > 0 {
		s := rest[len(rest)-1]
		rest = rest[:len(rest)-1]
		for _, x := range w[s.at] {
			next := stand{x.to, s.odd || x.odd}
			if _, ok := came[next]; !ok {
				came[next] = len(came)
				rest = append(rest, next)
			}
		}
	}
	_, ok := came[stand{from, true}]
	return ok
}

// strata: those of all relations. None turns: so no stratum rises for ever.
func (w web) strata() []int {
	strata := make([]int, len(w))
	for risen := true; risen; {
		risen = false
		for k, steps := range w {
			for _, x := range steps {
				if s := above(strata[x.to], x.odd); s > strata[k] {
					strata[k], risen = s, true
				}
			}
		}
	}
	return strata
}

// above: the least stratum of what hangs on one of this stratum.
func above(stratum int, odd bool) int {
	if odd {
		return stratum + 1
	}
	return stratum
}
