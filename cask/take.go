package cask

import (
	"math"

	"stile/api"
	"stile/knot"
)

// unlimited is the most of a list that may be of any length.
const unlimited = math.MaxInt

func takeType(i *knot.In) api.Type {
	return api.Type{Name: takeName(i), Rels: takeList(i, unlimited, takeRel)}
}

func takeRel(i *knot.In) api.Rel {
	return api.Rel{
		Name:  takeName(i),
		Allow: takeList(i, unlimited, takeAllow),
		Expr:  takeNode(api.MaxNest)(i),
	}
}

func takeAllow(i *knot.In) api.Allow {
	return api.Allow{Type: takeName(i), Relation: takeName(i), Wild: i.Mark()}
}

// takeNode takes nodes that are at most so deep: bytes may tell of far deeper
// ones, of which calls within calls would need more stack than there is.
func takeNode(depth int) func(i *knot.In) api.Node {
	kids := api.MaxNodes
	if depth == 1 {
		kids = 0
	}
	return func(i *knot.In) api.Node {
		return api.Node{
			Kind: i.Number(api.Except),
			A:    takeName(i),
			B:    takeName(i),
			Kids: takeList(i, kids, takeNode(depth-1)),
		}
	}
}

// takeName takes a name, or nothing, as a text.
func takeName(i *knot.In) string { return i.Text(api.MaxName) }

// takeList takes a list of at most so many things, each by take, which takes
// something in any case.
func takeList[T any](i *knot.In, most int, take func(i *knot.In) T) []T {
	var l []T
	for range i.Number(most) {
		// The list's number may be far above what stands there: the first
		// thing that doesn't fails, and the ones behind it aren't asked for.
		over := i.Left() == 0
		x := take(i)
		if over {
			return nil
		}
		l = append(l, x)
	}
	return l
}
