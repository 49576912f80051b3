package lint

import (
	"strings"

	"stile/api"
	"stile/tract"
)

// A relation of a configuration that is well made.
type relation struct {
	spot Spot
	rel  api.Rel
	expr tract.Expr
}

// A layout is a configuration's types, its relations in order, and where each
// one stands there: the first, of those that have the same names.
type layout struct {
	types  []api.Type
	rels   []relation
	places map[Spot]int
}

// laid: the layout of a configuration that is well made.
func laid(c api.Config) layout {
	l := layout{types: c.Types, places: map[Spot]int{}}
	for _, t := range c.Types {
		for _, r := range t.Rels {
			at := Spot{Type: t.Name, Relation: r.Name}
			if !l.has(at) {
				l.places[at] = len(l.rels)
			}
			// Of what is well made there is an expression.
			expr, _ := tract.Build(r.Expr)
			l.rels = append(l.rels, relation{at, r, expr})
		}
	}
	return l
}

// has: is there such a relation?
func (l layout) has(at Spot) bool {
	_, ok := l.places[at]
	return ok
}

// items: all relations, with these strata.
func (l layout) items(strata []int) []Item {
	items := make([]Item, len(l.rels))
	for k, r := range l.rels {
		items[k] = Item{Type: strings.Clone(r.spot.Type), Relation: strings.Clone(r.spot.Relation), Stratum: strata[k]}
	}
	return items
}
