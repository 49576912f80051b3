package grammar

import (
	"stile/api"
	"stile/sigil"
)

func config(r *reader) api.Config {
	return api.Config{Types: each(r, sigil.Type, typ)}
}

// typ: a type, behind the token that begins it.
func typ(r *reader) api.Type {
	name := r.word()
	r.need('{')
	rels := each(r, sigil.Rel, rel)
	r.need('}')
	return api.Type{Name: name, Rels: rels}
}

// rel: a relation, behind the token that begins it.
func rel(r *reader) api.Rel {
	name := r.word()
	var allowed []api.Allow
	if r.take('[') {
		allowed = list(r, ',', allow)
		r.need(']')
	}
	r.need('=')
	expr := union(r)
	r.need(';')
	return api.Rel{Name: name, Allow: allowed, Expr: expr}
}

func allow(r *reader) api.Allow {
	a := api.Allow{Type: r.word()}
	if r.take('#') {
		a.Relation = r.word()
	} else if r.take(':') {
		r.need('*')
		a.Wild = true
	}
	return a
}

func union(r *reader) api.Node { return joined(api.Union, list(r, '|', meet)) }

func meet(r *reader) api.Node { return joined(api.Meet, list(r, '&', less)) }

// joined: a node of the parts; one alone is itself.
func joined(kind int, parts []api.Node) api.Node {
	if len(parts) == 1 {
		return parts[0]
	}
	return api.Node{Kind: kind, Kids: parts}
}

func less(r *reader) api.Node {
	base := atom(r)
	if !r.take('-') {
		return base
	}
	return api.Node{Kind: api.Except, Kids: []api.Node{base, atom(r)}}
}

func atom(r *reader) api.Node {
	if r.take(sigil.This) {
		return api.Node{Kind: api.This}
	}
	if r.next() == '(' {
		return brackets(r)
	}
	name := r.word()
	if r.take(sigil.To) {
		return api.Node{Kind: api.Arrow, A: name, B: r.word()}
	}
	return api.Node{Kind: api.Computed, A: name}
}

// brackets: the union within them; r stands ahead of the (.
func brackets(r *reader) api.Node {
	if r.open == api.MaxNest {
		r.fail(errDeep)
		return api.Node{}
	}
	r.need('(')
	r.open++
	n := union(r)
	r.need(')')
	r.open--
	return n
}
