package hedge

import (
	"fmt"
	"math/rand"
	"testing"
)

// sound looks at each node of a tree: its entries in order, its count, and
// neither side too heavy. It answers how deep the tree is.
func sound(t *testing.T, n *node) int {
	t.Helper()
	if n == nil {
		return 0
	}
	l, r := n.left, n.right
	if n.count != l.len()+1+r.len() {
		t.Fatalf("the count at %q is %d, of %d and %d", n.Key, n.count, l.len(), r.len())
	}
	if l.weight() > lean*r.weight() || r.weight() > lean*l.weight() {
		t.Fatalf("too heavy a side at %q: %d and %d", n.Key, l.len(), r.len())
	}
	if l != nil && l.Key >= n.Key || r != nil && r.Key <= n.Key {
		t.Fatalf("no order at %q", n.Key)
	}
	return 1 + max(sound(t, l), sound(t, r))
}

// A tree stays low, whatever came and went, so that no call has far to go.
func TestTreeStaysBalanced(t *testing.T) {
	random := rand.New(rand.NewSource(153))
	name := func(k int) string { return fmt.Sprintf("%05d", k) }
	for round := range 20 {
		h, most := New(), 1+round*20
		for step := range 2000 {
			key := name(random.Intn(most))
			switch {
			case step/500%2 == 0: // more comes than goes
				h.Put(key, step)
			case round%2 == 0: // the first ones go
				h.Drop(h.From("", 1)[0].Key)
				h.Put(key, step)
				h.Drop(name(random.Intn(most)))
				h.Put("", step)
			default:
				h.Drop(key)
			}
			sound(t, h.root)
		}
	}
	h := New()
	for k := range 100000 {
		h.Put(name(k), k)
	}
	if deep := sound(t, h.root); deep > 40 {
		t.Errorf("a tree of 100,000 keys is %d deep", deep)
	}
}
