package cask

import (
	"stile/api"
	"stile/knot"
)

func tieType(k *knot.Knot, t api.Type) {
	k.Text(t.Name)
	tieList(k, t.Rels, tieRel)
}

func tieRel(k *knot.Knot, r api.Rel) {
	k.Text(r.Name)
	tieList(k, r.Allow, tieAllow)
	tieNode(k, r.Expr)
}

func tieAllow(k *knot.Knot, a api.Allow) {
	k.Text(a.Type)
	k.Text(a.Relation)
	k.Mark(a.Wild)
}

// tieNode ties a good node, whose depth has a limit.
func tieNode(k *knot.Knot, n api.Node) {
	k.Number(n.Kind)
	k.Text(n.A)
	k.Text(n.B)
	tieList(k, n.Kids, tieNode)
}

// tieList ties a list, each thing of it by tie.
func tieList[T any](k *knot.Knot, l []T, tie func(k *knot.Knot, x T)) {
	// No list is so long that its length is out of range.
	k.Number(len(l))
	for _, x := range l {
		tie(k, x)
	}
}
