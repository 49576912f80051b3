package hedge

import "stile/glyph"

// node is a tree of entries: those on its left are ahead of its own, those on
// its right behind it. nil has none.
type node struct {
	Entry
	count       int // of the entries of the whole tree
	left, right *node
}

// lean is how many times as heavy as the other one of a node's two sides may
// be at most, and inner how many times as heavy as the outer one of the
// heavier side's own two, if one turn is to mend it. These two go together:
// with them turns mend what one entry more, or less, brought about.
const (
	lean  = 3
	inner = 2
)

func (n *node) len() int {
	if n == nil {
		return 0
	}
	return n.count
}

// weight is above 0, so that each may be some times another one.
func (n *node) weight() int { return n.len() + 1 }

// find: the node of a key, or nil.
func (n *node) find(key string) *node {
	for n != nil {
		switch c := glyph.Compare(key, n.Key); {
		case c < 0:
			n = n.left
		case c > 0:
			n = n.right
		default:
			return n
		}
	}
	return nil
}

// rank: how many keys are ahead of one.
func (n *node) rank(key string) int {
	ahead := 0
	for n != nil {
		if glyph.Compare(n.Key, key) < 0 {
			ahead += n.left.len() + 1
			n = n.right
		} else {
			n = n.left
		}
	}
	return ahead
}

// from shows visit, in order, the entries whose keys aren't ahead of this one,
// till it says no. Did it never?
func (n *node) from(key string, visit func(e Entry) bool) bool {
	switch {
	case n == nil:
		return true
	case glyph.Compare(n.Key, key) < 0:
		return n.right.from(key, visit)
	}
	// Of what stands on the right nothing is ahead: no text is ahead of "".
	return n.left.from(key, visit) && visit(n.Entry) && n.right.from("", visit)
}

// with: the tree with one entry more, whose key isn't there.
func (n *node) with(e Entry) *node {
	if n == nil {
		return &node{Entry: e, count: 1}
	}
	if glyph.Compare(e.Key, n.Key) < 0 {
		n.left = n.left.with(e)
	} else {
		n.right = n.right.with(e)
	}
	return n.balanced()
}

// without: the tree without the entry of a key that is there.
func (n *node) without(key string) *node {
	switch c := glyph.Compare(key, n.Key); {
	case c < 0:
		n.left = n.left.without(key)
	case c > 0:
		n.right = n.right.without(key)
	case n.left == nil:
		return n.right
	case n.right == nil:
		return n.left
	default:
		n.Entry = n.right.leftmost()
		n.right = n.right.without(n.Key)
	}
	return n.balanced()
}

// leftmost: the first entry of a tree that has some.
func (n *node) leftmost() Entry {
	for n.left != nil {
		n = n.left
	}
	return n.Entry
}

// balanced: the tree, neither of whose sides is too heavy, if each has become
// heavier or lighter by one entry at most.
func (n *node) balanced() *node {
	switch l, r := n.left, n.right; {
	case l.weight() > lean*r.weight():
		if l.right.weight() >= inner*l.left.weight() {
			n.left = l.turnedLeft()
		}
		return n.turnedRight()
	case r.weight() > lean*l.weight():
		if r.left.weight() >= inner*r.right.weight() {
			n.right = r.turnedRight()
		}
		return n.turnedLeft()
	}
	n.recount()
	return n
}

// turnedLeft: the same entries, with the right side's node on top.
func (n *node) turnedLeft() *node {
	top := n.right
	n.right, top.left = top.left, n
	n.recount()
	top.recount()
	return top
}

// turnedRight: the same entries, with the left side's node on top.
func (n *node) turnedRight() *node {
	top := n.left
	n.left, top.right = top.right, n
	n.recount()
	top.recount()
	return top
}

func (n *node) recount() { n.count = n.left.len() + 1 + n.right.len() }
