package canon

import (
	"strings"

	"stile/api"
	"stile/tract"
)

// How tight expressions are bound. A part stands within brackets, if it isn't
// bound tighter than what it is a part of.
const (
	byUnion  = 1
	byMeet   = 2
	byExcept = 3
	whole    = 4 // there is nothing to be bound
)

// relText: a relation's line, without what is ahead of and behind it.
func relText(r api.Rel) string {
	allowed := ""
	if len(r.Allow) > 0 {
		allowed = "[" + allowText(r.Allow) + "] "
	}
	// Print is at work on a configuration that is well made: nothing is wrong.
	expr, _ := Expr(r.Expr)
	return "rel " + r.Name + " " + allowed + "= " + expr + ";"
}

// allowText: what a relation allows.
func allowText(l []api.Allow) string {
	texts := make([]string, len(l))
	for k, a := range l {
		texts[k] = a.Type
		if a.Relation != "" {
			texts[k] += "#" + a.Relation
		}
		if a.Wild {
			texts[k] += ":*"
		}
	}
	return strings.Join(texts, ", ")
}

// text: an expression's. There are six types: what is none of the first five
// is of the last one, or the assertion panics, as it never does of what Build
// answers.
func text(e tract.Expr) string {
	if _, ok := e.(tract.This); ok {
		return "this"
	}
	if x, ok := e.(tract.Computed); ok {
		return x.Relation
	}
	if x, ok := e.(tract.Arrow); ok {
		return x.Via + "->" + x.Relation
	}
	if x, ok := e.(tract.Union); ok {
		return joined(" | ", byUnion, x.Parts...)
	}
	if x, ok := e.(tract.Meet); ok {
		return joined(" & ", byMeet, x.Parts...)
	}
	x := e.(tract.Except)
	return joined(" - ", byExcept, x.Base, x.Minus)
}

// joined: the texts of the parts of what is so tight, with its sign between.
func joined(sign string, tight int, parts ...tract.Expr) string {
	texts := make([]string, len(parts))
	for k, p := range parts {
		texts[k] = text(p)
		if bound(p) <= tight {
			texts[k] = "(" + texts[k] + ")"
		}
	}
	return strings.Join(texts, sign)
}

// bound: how tight an expression is.
func bound(e tract.Expr) int {
	if _, ok := e.(tract.Union); ok {
		return byUnion
	}
	if _, ok := e.(tract.Meet); ok {
		return byMeet
	}
	if _, ok := e.(tract.Except); ok {
		return byExcept
	}
	return whole
}
