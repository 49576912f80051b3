package tract

import (
	"stile/api"
	"stile/glyph"
)

// Word: is it one?
func Word(s string) bool {
	return glyph.Name(s) && s != "type" && s != "rel" && s != "this"
}

// Good: is a node?
func Good(n api.Node) bool {
	return through(n, func(n api.Node, _ int) bool { return fits(n) })
}

// Size: of a node.
func Size(n api.Node) int {
	size := 0
	through(n, func(api.Node, int) bool {
		size++
		return true
	})
	return size
}

// Depth: of a node.
func Depth(n api.Node) int {
	greatest := 0
	through(n, func(_ api.Node, depth int) bool {
		greatest = max(greatest, depth)
		return true
	})
	return greatest
}

// Same: the same nodes?
func Same(a, b api.Node) bool {
	left, right := []api.Node{a}, []api.Node{b}
	came := map[pair]int{}
	for len(left) > 0 {
		last := len(left) - 1
		a, b = left[last], right[last]
		if a.Kind != b.Kind || a.A != b.A || a.B != b.B || len(a.Kids) != len(b.Kids) {
			return false
		}
		left, right = left[:last], right[:last]
		if fresh(came, a.Kids, b.Kids) {
			left = append(left, a.Kids...)
			right = append(right, b.Kids...)
		}
	}
	return true
}

// A pair is two lists of Kids, as memory, that are held against each other.
type pair struct {
	left, right *api.Node
	size        int
}

// fresh: has a pair of lists, of the same length, something to be looked at,
// and didn't it come already? What stands in each other twice and again, or
// holds itself, would be looked at without end, if each came each time.
func fresh(came map[pair]int, left, right []api.Node) bool {
	if len(left) == 0 {
		return false
	}
	p := pair{&left[0], &right[0], len(left)}
	_, old := came[p]
	came[p] = len(came)
	return !old
}

// fits: has a node what its kind must have, and nothing else? Its Kids may be
// any.
func fits(n api.Node) bool {
	nameless := n.A == "" && n.B == ""
	switch n.Kind {
	case api.This:
		return nameless && len(n.Kids) == 0
	case api.Computed:
		return Word(n.A) && n.B == "" && len(n.Kids) == 0
	case api.Arrow:
		return Word(n.A) && Word(n.B) && len(n.Kids) == 0
	case api.Union, api.Meet:
		return nameless && len(n.Kids) >= 2
	case api.Except:
		return nameless && len(n.Kids) == 2
	}
	return false
}

// spot: a node, and how deep it stands.
type spot struct {
	node  api.Node
	depth int
}

// through shows see a node and all within it, in no order, as long as it
// answers true: did it of each? A node that isn't good may be so deep that
// calls within calls would need more stack than there is: so what is still to
// come stands on a list.
func through(n api.Node, see func(n api.Node, depth int) bool) bool {
	rest := []spot{{n, 1}}
	for len(rest) > 0 {
		last := len(rest) - 1
		at := rest[last]
		rest = rest[:last]
		if !see(at.node, at.depth) {
			return false
		}
		for _, k := range at.node.Kids {
			rest = append(rest, spot{k, at.depth + 1})
		}
	}
	return true
}
