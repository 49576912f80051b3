package tract

import (
	"strings"

	"stile/api"
)

// Build: a node's expression.
func Build(n api.Node) (Expr, api.Errno) {
	switch {
	case !Good(n):
		return nil, api.ErrForm
	case Size(n) > api.MaxNodes:
		return nil, api.ErrFull
	case Depth(n) > api.MaxNest:
		return nil, api.ErrDeep
	}
	return build(n), api.OK
}

// Refs: all references.
func Refs(e Expr) []Ref {
	var l []Ref
	eachPart(e, false, func(p Expr, odd bool) {
		if r, ok := reference(p); ok {
			r.Odd = odd
			l = append(l, r)
		}
	})
	return l
}

// Direct: is there a This in it, odd or even?
func Direct(e Expr, odd bool) bool {
	found := false
	eachPart(e, false, func(p Expr, within bool) {
		if within == odd && plain(p) {
			found = true
		}
	})
	return found
}

// Plain: is it a This?
func Plain(e Expr) bool { return plain(e) }

// Via: the Arrow that it is.
func Via(e Expr) Arrow {
	a := arrow(e)
	return Arrow{Via: strings.Clone(a.Via), Relation: strings.Clone(a.Relation)}
}

// build: the expression of a good node, whose depth has a limit.
func build(n api.Node) Expr {
	switch n.Kind {
	case api.Computed:
		return Computed{Relation: strings.Clone(n.A)}
	case api.Arrow:
		return Arrow{Via: strings.Clone(n.A), Relation: strings.Clone(n.B)}
	case api.Union:
		return Union{Parts: buildAll(n.Kids)}
	case api.Meet:
		return Meet{Parts: buildAll(n.Kids)}
	case api.Except:
		return Except{Base: build(n.Kids[0]), Minus: build(n.Kids[1])}
	}
	return This{}
}

func buildAll(kids []api.Node) []Expr {
	l := make([]Expr, len(kids))
	for k, n := range kids {
		l[k] = build(n)
	}
	return l
}

// eachPart shows see an expression and all within it, in the order in which
// they stand, with whether each stands within an odd number of second parts of
// Excepts. The expression itself may be a part of another one: odd tells of it.
func eachPart(e Expr, odd bool, see func(p Expr, odd bool)) {
	see(e, odd)
	if x, ok := e.(Union); ok {
		for _, p := range x.Parts {
			eachPart(p, odd, see)
		}
	}
	if x, ok := e.(Meet); ok {
		for _, p := range x.Parts {
			eachPart(p, odd, see)
		}
	}
	if x, ok := e.(Except); ok {
		eachPart(x.Base, odd, see)
		eachPart(x.Minus, !odd, see)
	}
}

// reference: the one that an expression is, if it is one; whether it is odd,
// it can't tell.
func reference(e Expr) (Ref, bool) {
	if x, ok := e.(Computed); ok {
		return Ref{Relation: strings.Clone(x.Relation)}, true
	}
	if x, ok := e.(Arrow); ok {
		return Ref{Via: strings.Clone(x.Via), Relation: strings.Clone(x.Relation)}, true
	}
	return Ref{}, false
}

func plain(e Expr) bool {
	_, ok := e.(This)
	return ok
}

// arrow panics of what is none, as Via is to.
func arrow(e Expr) Arrow { return e.(Arrow) }
