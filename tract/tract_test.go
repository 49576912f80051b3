package tract_test

import (
	"fmt"
	"math"
	"reflect"
	"strconv"
	"strings"
	"testing"

	"stile/api"
	"stile/glyph"
	"stile/tract"
)

type node = api.Node

func this() node             { return node{Kind: api.This} }
func computed(a string) node { return node{Kind: api.Computed, A: a} }
func arrow(a, b string) node { return node{Kind: api.Arrow, A: a, B: b} }

func union(kids ...node) node  { return node{Kind: api.Union, Kids: kids} }
func meet(kids ...node) node   { return node{Kind: api.Meet, Kids: kids} }
func except(kids ...node) node { return node{Kind: api.Except, Kids: kids} }

// example is the chapter's.
func example() node { return except(union(this(), computed("a")), arrow("p", "b")) }

// text tells all of a node: nodes are the same, if their texts are.
func text(n node) string {
	s := fmt.Sprintf("%d %q %q", n.Kind, n.A, n.B)
	for _, k := range n.Kids {
		s += " (" + text(k) + ")"
	}
	return s
}

// goods are all good nodes of a size of at most most, of few names.
func goods(most int) []node {
	bySize := make([][]node, most+1)
	bySize[1] = []node{this(), computed("a"), arrow("p", "b")}
	for size := 2; size <= most; size++ {
		for _, kids := range lists(bySize, size-1) {
			if len(kids) == 2 {
				bySize[size] = append(bySize[size], except(kids...))
			}
			if len(kids) >= 2 {
				bySize[size] = append(bySize[size], union(kids...), meet(kids...))
			}
		}
	}
	var all []node
	for _, l := range bySize {
		all = append(all, l...)
	}
	return all
}

// lists are those of nodes that are of this size in all.
func lists(bySize [][]node, size int) [][]node {
	if size == 0 {
		return [][]node{nil}
	}
	var all [][]node
	for first := 1; first <= size; first++ {
		for _, rest := range lists(bySize, size-first) {
			for _, n := range bySize[first] {
				all = append(all, append([]node{n}, rest...))
			}
		}
	}
	return all
}

// chain is of this depth, and has two nodes more for each that it is deeper.
func chain(kind, depth int) node {
	n := this()
	for range depth - 1 {
		n = node{Kind: kind, Kids: []node{n, computed("a")}}
	}
	return n
}

// wide is a Union of this size: of it and its Kids.
func wide(size int) node {
	n := union()
	for range size - 1 {
		n.Kids = append(n.Kids, this())
	}
	return n
}

// built is what Build answers of a node that it must take.
func built(t *testing.T, n node) tract.Expr {
	t.Helper()
	e, f := tract.Build(n)
	if f != api.OK || e == nil {
		t.Fatalf("Build(%s): %v, %d", text(n), e, f)
	}
	return e
}

func TestP5_1Word(t *testing.T) {
	for _, s := range []string{"type", "rel", "this"} {
		if tract.Word(s) {
			t.Errorf("Word(%q)", s)
		}
		for _, s := range []string{s + "s", s + "_", s + "0", "a" + s, s + s, s[:1], s[:2], s[1:], s + "type"} {
			if !tract.Word(s) {
				t.Errorf("not Word(%q)", s)
			}
		}
		for _, s := range []string{s + " ", " " + s, strings.ToUpper(s), strings.ToUpper(s[:1]) + s[1:], s + "\x00", s + "é", "0" + s, "_" + s, s + "-a", s + "\xff"} {
			if tract.Word(s) {
				t.Errorf("Word(%q)", s)
			}
		}
	}
	long := strings.Repeat("a", api.MaxName)
	if !tract.Word(long) || tract.Word(long+"a") || tract.Word("") {
		t.Error("Word by how long it is")
	}
	for a := range 256 {
		for b := range 256 {
			if s := string([]byte{byte(a), byte(b)}); tract.Word(s) != glyph.Name(s) || tract.Word(s[:1]) != glyph.Name(s[:1]) {
				t.Errorf("Word of %q, or of its first byte", s)
			}
		}
	}
}

// shapes are those that a node may have: its Kind, whether its A and its B is
// a word or empty, and how many Kids it has.
var shapes = map[string]bool{
	"1 - - 0": true, "2 w - 0": true, "3 w w 0": true,
	"4 - - 2": true, "4 - - 3": true, "5 - - 2": true, "5 - - 3": true, "6 - - 2": true,
}

// names are the ways of an A or a B: empty, words, and what is neither.
var names = map[string]string{"": "-", "a": "w", "types": "w", "this": "x", "rel": "x", "type": "x", "A": "x", " ": "x"}

func TestP5_1GoodByWhatANodeHas(t *testing.T) {
	kids := []node{this(), computed("a"), this()}
	for _, kind := range []int{math.MinInt, -6, -1, 0, 1, 2, 3, 4, 5, 6, 7, 8, 1 << 32, 1<<32 + 1, math.MaxInt} {
		for a, signA := range names {
			for b, signB := range names {
				for size := range 4 {
					n := node{Kind: kind, A: a, B: b, Kids: kids[:size]}
					want := shapes[strconv.Itoa(kind)+" "+signA+" "+signB+" "+strconv.Itoa(size)]
					if tract.Good(n) != want {
						t.Errorf("Good(%s) isn't %v", text(n), want)
					}
					checkError(t, n, want)
				}
			}
		}
	}
}

// checkError: is a node, small and flat, and one with it as a part, built just
// if it is good?
func checkError(t *testing.T, n node, good bool) {
	t.Helper()
	for _, n := range []node{n, union(n, this()), except(this(), meet(this(), n))} {
		e, f := tract.Build(n)
		if good && (f != api.OK || e == nil) || !good && (f != api.ErrForm || e != nil) {
			t.Errorf("Build(%s): %v, %d", text(n), e, f)
		}
	}
}

// A bad node is found wherever it stands.
func TestP5_1GoodByKids(t *testing.T) {
	for _, bad := range []node{{}, computed("this"), computed(""), arrow("a", ""), arrow("", "a"), union(), union(this()), meet(this()), except(this()), except(this(), this(), this()), {Kind: api.This, Kids: []node{this()}}, {Kind: 7}} {
		for _, whole := range goods(5) {
			places(whole, bad, func(n node) {
				if tract.Good(n) {
					t.Errorf("Good(%s)", text(n))
				}
				if e, f := tract.Build(n); e != nil || f != api.ErrForm {
					t.Errorf("Build(%s): %v, %d", text(n), e, f)
				}
			})
		}
	}
}

// places tells see whole with x put where one of its nodes stands, for each of
// them.
func places(whole, x node, see func(n node)) {
	see(x)
	for k := range whole.Kids {
		places(whole.Kids[k], x, func(kid node) {
			n := whole
			n.Kids = append([]node{}, whole.Kids...)
			n.Kids[k] = kid
			see(n)
		})
	}
}

func size(n node) int {
	all := 1
	for _, k := range n.Kids {
		all += size(k)
	}
	return all
}

func depth(n node) int {
	most := 0
	for _, k := range n.Kids {
		most = max(most, depth(k))
	}
	return most + 1
}

func TestP5_1SizeAndDepth(t *testing.T) {
	check := func(n node, s, d int) {
		if tract.Size(n) != s || tract.Depth(n) != d {
			t.Errorf("%s: size %d, depth %d, not %d, %d", text(n), tract.Size(n), tract.Depth(n), s, d)
		}
	}
	check(example(), 5, 3)
	check(node{}, 1, 1)
	check(this(), 1, 1)
	check(wide(40), 40, 2)
	check(chain(api.Meet, 30), 59, 30)
	check(union(this(), chain(api.Union, 4), this(), chain(api.Union, 6), this()), 22, 7)
	for _, n := range goods(6) {
		if !tract.Good(n) {
			t.Errorf("not Good(%s)", text(n))
		}
		check(n, size(n), depth(n))
	}
	// Of any node: what isn't good has them, too.
	bad := node{Kind: api.This, A: "x", Kids: []node{{}, {Kind: -3, Kids: []node{{}}}, {B: "y"}}}
	check(bad, 5, 3)
	check(union(bad), 6, 4)
}

func TestP5_1Same(t *testing.T) {
	all := append(goods(4), node{}, node{Kind: 7}, node{Kind: -1}, node{A: "a"}, node{B: "a"}, union(), union(this()), union(node{}), node{Kind: api.This, Kids: []node{this()}}, computed(""), computed("A"), arrow("b", "p"), arrow("p", ""), arrow("pb", ""), arrow("", "pb"))
	for k, a := range all {
		for m, b := range all {
			if tract.Same(a, b) != (k == m) {
				t.Errorf("Same(%s, %s) isn't %v", text(a), text(b), k == m)
			}
		}
	}
	for _, a := range goods(5) {
		if !tract.Same(a, a) {
			t.Errorf("not Same(%s, the same)", text(a))
		}
		for _, x := range []node{{}, this(), computed("b"), arrow("p", "p"), union(this(), this()), meet(this())} {
			places(a, x, func(b node) {
				if same := text(a) == text(b); tract.Same(a, b) != same || tract.Same(b, a) != same {
					t.Errorf("Same(%s, %s) isn't %v", text(a), text(b), same)
				}
			})
		}
	}
	if tract.Same(union(meet(this(), this()), this()), union(meet(this()), this(), this())) {
		t.Error("Same of as many nodes, otherwise within each other")
	}
}

func TestP5_1BuildsLimits(t *testing.T) {
	if api.MaxNodes != 24 || api.MaxNest != 8 {
		t.Fatal("other limits")
	}
	bad := union(this())
	for name, c := range map[string]struct {
		n    node
		want api.Errno
	}{
		"size 24":                        {wide(24), api.OK},
		"size 25":                        {wide(25), api.ErrFull},
		"size 24, deep":                  {union(chain(api.Meet, 7), chain(api.Except, 4), this(), this(), this()), api.OK},
		"size 25, deep":                  {union(chain(api.Meet, 7), chain(api.Except, 4), this(), this(), this(), this()), api.ErrFull},
		"depth 8":                        {chain(api.Union, 8), api.OK},
		"depth 9":                        {chain(api.Union, 9), api.ErrDeep},
		"depth 8, Excepts":               {chain(api.Except, 8), api.OK},
		"depth 9, Excepts":               {chain(api.Except, 9), api.ErrDeep},
		"depth 9, by a last part":        {union(this(), this(), chain(api.Meet, 8)), api.ErrDeep},
		"size 24, depth 9":               {union(chain(api.Meet, 8), wide(8)), api.ErrDeep},
		"too great, too deep":            {chain(api.Union, 13), api.ErrFull},
		"too great by 1, too deep by 1":  {union(chain(api.Meet, 8), wide(9)), api.ErrFull},
		"bad, too great":                 {union(wide(25), bad), api.ErrForm},
		"bad, too deep":                  {union(chain(api.Union, 9), bad), api.ErrForm},
		"bad, too great, too deep":       {union(chain(api.Union, 30), bad), api.ErrForm},
		"bad, beyond size and depth":     {nested(bad, 40), api.ErrForm},
		"bad, at its first part":         {union(node{}, wide(40)), api.ErrForm},
		"bad itself, with great parts":   {except(wide(30), wide(30), wide(30)), api.ErrForm},
		"bad itself, with one deep part": {meet(chain(api.Union, 20)), api.ErrForm},
	} {
		e, f := tract.Build(c.n)
		if f != c.want || (e == nil) != (f != api.OK) {
			t.Errorf("%s: Build: %v, %d", name, e, f)
		}
		if f == api.OK && text(e.Node()) != text(c.n) {
			t.Errorf("%s: another node", name)
		}
		if tract.Good(c.n) != (c.want != api.ErrForm) {
			t.Errorf("%s: Good", name)
		}
	}
}

// nested is x within so many Unions.
func nested(x node, times int) node {
	for range times {
		x = union(this(), x)
	}
	return x
}

// refs and directs are what Refs and Direct are to answer, asked of nodes.
func refs(n node, minus int) []tract.Ref {
	switch n.Kind {
	case api.Computed:
		return []tract.Ref{{Relation: n.A, Odd: minus%2 == 1}}
	case api.Arrow:
		return []tract.Ref{{Via: n.A, Relation: n.B, Odd: minus%2 == 1}}
	case api.Except:
		return append(refs(n.Kids[0], minus), refs(n.Kids[1], minus+1)...)
	}
	var l []tract.Ref
	for _, k := range n.Kids {
		l = append(l, refs(k, minus)...)
	}
	return l
}

func directs(n node, minus int) map[bool]bool {
	if n.Kind == api.This {
		return map[bool]bool{minus%2 == 1: true}
	}
	found := map[bool]bool{}
	for k, kid := range n.Kids {
		within := minus
		if n.Kind == api.Except {
			within += k
		}
		for odd := range directs(kid, within) {
			found[odd] = true
		}
	}
	return found
}

func TestP5_1RefsDirectAndPlain(t *testing.T) {
	for _, n := range goods(6) {
		e := built(t, n)
		if got, want := tract.Refs(e), refs(n, 0); len(got)+len(want) > 0 && !reflect.DeepEqual(got, want) {
			t.Errorf("Refs of %s: %v, not %v", text(n), got, want)
		}
		for _, odd := range []bool{false, true} {
			if want := directs(n, 0)[odd]; tract.Direct(e, odd) != want {
				t.Errorf("Direct of %s, %v, isn't %v", text(n), odd, want)
			}
		}
		if tract.Plain(e) != (n.Kind == api.This) {
			t.Errorf("Plain of %s", text(n))
		}
	}
}

func TestP5_1RefsWithinExcepts(t *testing.T) {
	got := fmt.Sprint(tract.Refs(built(t, example())))
	if got != "[{ a false} {p b true}]" {
		t.Errorf("the example's references: %s", got)
	}
	// The more second parts stand around one, the other it is.
	n, minus := union(computed("a"), this(), arrow("p", "b")), 0
	for depth := 2; depth <= api.MaxNest; depth++ {
		e := built(t, n)
		odd := minus%2 == 1
		want := []tract.Ref{{Relation: "a", Odd: odd}, {Via: "p", Relation: "b", Odd: odd}}
		if minus > 0 {
			want = append([]tract.Ref{{Relation: "c"}}, want...)
			for k := 1; k < minus; k++ {
				want = append(want[:k:k], append([]tract.Ref{{Relation: "c", Odd: k%2 == 1}}, want[k:]...)...)
			}
		}
		if got := tract.Refs(e); !reflect.DeepEqual(got, want) {
			t.Errorf("within %d second parts: %v, not %v", minus, got, want)
		}
		if !tract.Direct(e, odd) || tract.Direct(e, !odd) {
			t.Errorf("within %d second parts: Direct", minus)
		}
		n, minus = except(computed("c"), n), minus+1
	}
	// First parts count nothing; nor do Unions and Meets between.
	e := built(t, except(except(except(this(), union(meet(computed("x"), computed("y")), this())), computed("z")), meet(this(), except(computed("u"), arrow("v", "w")))))
	if got := fmt.Sprint(tract.Refs(e)); got != "[{ x true} { y true} { z true} { u true} {v w false}]" {
		t.Errorf("references: %s", got)
	}
	// A reference that stands twice is told twice.
	if got := fmt.Sprint(tract.Refs(built(t, union(computed("a"), computed("a"), except(computed("a"), computed("a")))))); got != "[{ a false} { a false} { a false} { a true}]" {
		t.Errorf("references: %s", got)
	}
}

// kinds are the types of expressions, by their nodes.
var kinds = map[int]string{api.This: "tract.This", api.Computed: "tract.Computed", api.Arrow: "tract.Arrow", api.Union: "tract.Union", api.Meet: "tract.Meet", api.Except: "tract.Except"}

// checkParts: is an expression, part by part, of the types and the nodes that
// it must be?
func checkParts(t *testing.T, e tract.Expr, n node) {
	if got := fmt.Sprintf("%T", e); got != kinds[n.Kind] {
		t.Fatalf("%s: its type is %s", text(n), got)
	}
	if got := e.Node(); text(got) != text(n) {
		t.Errorf("%s: its node is %s", text(n), text(got))
	}
	var parts []tract.Expr
	switch x := e.(type) {
	case tract.Computed:
		if x.Relation != n.A {
			t.Errorf("%s: %v", text(n), x)
		}
	case tract.Arrow:
		if x.Via != n.A || x.Relation != n.B {
			t.Errorf("%s: %v", text(n), x)
		}
	case tract.Union:
		parts = x.Parts
	case tract.Meet:
		parts = x.Parts
	case tract.Except:
		parts = []tract.Expr{x.Base, x.Minus}
	}
	if len(parts) != len(n.Kids) {
		t.Fatalf("%s: %d parts", text(n), len(parts))
	}
	for k, p := range parts {
		checkParts(t, p, n.Kids[k])
	}
}

func TestP5_2TheNodeIsTheNode(t *testing.T) {
	for _, n := range append(goods(6), wide(24), chain(api.Union, 8), chain(api.Except, 8), example(), computed("types"), arrow("thisx", "relx")) {
		e := built(t, n)
		checkParts(t, e, n)
		if !tract.Same(e.Node(), n) {
			t.Errorf("%s: its node isn't the same", text(n))
		}
		if again := built(t, e.Node()); !reflect.DeepEqual(again, e) {
			t.Errorf("%s: its node's expression is another one", text(n))
		}
	}
}

// via is Via's answer, and whether it panics.
func via(e tract.Expr) (a tract.Arrow, panics bool) {
	defer func() {
		if recover() != nil {
			panics = true
		}
	}()
	return tract.Via(e), false
}

func TestP5_3ViaPanicsJustOfWhatIsNoArrow(t *testing.T) {
	for _, n := range goods(5) {
		a, panics := via(built(t, n))
		if panics != (n.Kind != api.Arrow) || a != (tract.Arrow{Via: n.A, Relation: n.B}) && !panics {
			t.Errorf("Via of %s: %v, panics: %v", text(n), a, panics)
		}
	}
	for _, n := range []node{arrow("a", "b"), arrow("b", "a"), arrow("a", "a"), arrow(strings.Repeat("a", 16), strings.Repeat("b", 16))} {
		if a, panics := via(built(t, n)); panics || a.Via != n.A || a.Relation != n.B {
			t.Errorf("Via of %s: %v, panics: %v", text(n), a, panics)
		}
	}
	// Nor is what has an Arrow one.
	x := built(t, union(arrow("a", "b"), arrow("a", "b"))).(tract.Union)
	if _, panics := via(x); !panics {
		t.Error("Via of a Union of Arrows doesn't panic")
	}
	if a, panics := via(x.Parts[1]); panics || a != (tract.Arrow{Via: "a", Relation: "b"}) {
		t.Error("Via of a part")
	}
	if _, panics := via(nil); !panics {
		t.Error("Via of nothing doesn't panic")
	}
}
