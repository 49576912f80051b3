package lint

import (
	"strings"

	"stile/api"
)

func copiedSpot(s Spot) Spot {
	return Spot{Type: strings.Clone(s.Type), Relation: strings.Clone(s.Relation)}
}

func copiedRel(r api.Rel) api.Rel {
	c := api.Rel{Name: strings.Clone(r.Name), Allow: copiedList(r.Allow), Expr: copiedNode(r.Expr)}
	for k, a := range c.Allow {
		c.Allow[k].Type, c.Allow[k].Relation = strings.Clone(a.Type), strings.Clone(a.Relation)
	}
	return c
}

// So many nodes of an expression are copied wherever they stand. Behind them
// a list that stands at several places is copied once: a configuration may be
// any, and in it a list that holds itself would be copied without end.
const apart = 1 << 16

// A row is a list, as memory.
type row struct {
	first *api.Node
	size  int
}

// A copier copies lists of nodes: as long as it has nodes to spare.
type copier struct {
	spare  int
	copies map[row][]api.Node
}

// copiedNode: a node may be so deep that calls within calls would need more
// stack than there is: so the copies that aren't whole yet stand on a list.
func copiedNode(n api.Node) api.Node {
	c := copier{spare: apart, copies: map[row][]api.Node{}}
	top := []api.Node{n}
	rest := [][]api.Node{top}
	for len(rest) > 0 {
		nodes := rest[len(rest)-1]
		rest = rest[:len(rest)-1]
		for k, n := range nodes {
			kids, fresh := c.kids(n.Kids)
			nodes[k] = api.Node{Kind: n.Kind, A: strings.Clone(n.A), B: strings.Clone(n.B), Kids: kids}
			if fresh {
				rest = append(rest, kids)
			}
		}
	}
	return top[0]
}

// kids: a list's copy, and whether it is a fresh one, whose nodes are still
// those of the list.
func (c *copier) kids(l []api.Node) ([]api.Node, bool) {
	if len(l) == 0 {
		return nil, false
	}
	if c.spare -= len(l); c.spare >= 0 {
		return copiedList(l), true
	}
	at := row{&l[0], len(l)}
	if old, ok := c.copies[at]; ok {
		return old, false
	}
	c.copies[at] = copiedList(l)
	return c.copies[at], true
}

func copiedList[T any](l []T) []T {
	return append([]T(nil), l...)
}
