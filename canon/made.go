package canon

import (
	"stile/api"
	"stile/tract"
)

func goodType(t api.Type) bool {
	for _, r := range t.Rels {
		if !goodRel(r) {
			return false
		}
	}
	return tract.Word(t.Name)
}

func goodRel(r api.Rel) bool {
	for _, a := range r.Allow {
		if !goodAllow(a) {
			return false
		}
	}
	_, ok := expression(r.Expr)
	return ok && tract.Word(r.Name)
}

func goodAllow(a api.Allow) bool {
	if a.Relation == "" {
		return tract.Word(a.Type)
	}
	return tract.Word(a.Type) && tract.Word(a.Relation) && !a.Wild
}

// expression: the one that a node is, if it is one. How many nodes it is, is
// looked at first: one that is far too great is not gone through to its end,
// which it may not even have: a list of Kids may hold itself.
func expression(n api.Node) (tract.Expr, bool) {
	if spare(n, api.MaxNodes) < 0 {
		return nil, false
	}
	e, fault := tract.Build(n)
	return e, fault == api.OK
}

// spare: how many of most nodes are left over by a node and all within it;
// below 0, if they don't suffice.
func spare(n api.Node, most int) int {
	most--
	for _, k := range n.Kids {
		if most < 0 {
			break
		}
		most = spare(k, most)
	}
	return most
}
