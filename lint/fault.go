package lint

import (
	"slices"

	"stile/api"
	"stile/tract"
)

// fault: what is wrong first, but for cycles, and where it is.
func (l layout) fault() (Spot, api.Errno) {
	if len(l.types) > api.MaxTypes {
		return Spot{}, api.ErrFull
	}
	var names []string
	rest := l.rels
	for _, t := range l.types {
		names = append(names, t.Name)
		if e := typeFault(t, names); e != api.OK {
			return Spot{Type: t.Name}, e
		}
		if at, e := l.relsFault(rest[:len(t.Rels)]); e != api.OK {
			return at, e
		}
		rest = rest[len(t.Rels):]
	}
	return Spot{}, api.OK
}

// typeFault: what is wrong with a type, its relations aside. The names are
// those of the types as far as it.
func typeFault(t api.Type, names []string) api.Errno {
	switch {
	case len(t.Rels) > api.MaxRels:
		return api.ErrFull
	case twice(names):
		return api.ErrTwice
	}
	return api.OK
}

// relsFault: what is wrong first with a type's relations, and where it is.
func (l layout) relsFault(rels []relation) (Spot, api.Errno) {
	var names []string
	for _, r := range rels {
		names = append(names, r.rel.Name)
		if e := l.relFault(r, names); e != api.OK {
			return r.spot, e
		}
	}
	return Spot{}, api.OK
}

// relFault: what is wrong with a relation. The names are those of its type's
// relations as far as it.
func (l layout) relFault(r relation, names []string) api.Errno {
	allowed := r.rel.Allow
	asks := tract.Direct(r.expr, false) || tract.Direct(r.expr, true)
	switch {
	case len(allowed) > api.MaxAllowed:
		return api.ErrFull
	case twice(names) || twice(allowed):
		return api.ErrTwice
	case asks != (len(allowed) > 0):
		return api.ErrKind
	case slices.ContainsFunc(allowed, l.lacks):
		return api.ErrName
	}
	for _, ref := range tract.Refs(r.expr) {
		if e := l.refFault(r.spot.Type, ref); e != api.OK {
			return e
		}
	}
	return api.OK
}

// refFault: what is wrong with a reference of a relation of a type.
func (l layout) refFault(typ string, ref tract.Ref) api.Errno {
	if ref.Via == "" {
		return l.need(Spot{Type: typ, Relation: ref.Relation})
	}
	at := Spot{Type: typ, Relation: ref.Via}
	if e := l.need(at); e != api.OK {
		return e
	}
	via := l.rels[l.places[at]]
	if !tract.Plain(via.expr) || slices.ContainsFunc(via.rel.Allow, several) {
		return api.ErrKind
	}
	for _, a := range via.rel.Allow {
		if e := l.need(Spot{Type: a.Type, Relation: ref.Relation}); e != api.OK {
			return e
		}
	}
	return api.OK
}

// need: ErrName, if there is no such relation.
func (l layout) need(at Spot) api.Errno {
	if !l.has(at) {
		return api.ErrName
	}
	return api.OK
}

// lacks: is there no such thing as what is allowed?
func (l layout) lacks(a api.Allow) bool {
	if a.Relation != "" {
		return !l.has(Spot{Type: a.Type, Relation: a.Relation})
	}
	return !slices.ContainsFunc(l.types, func(t api.Type) bool { return t.Name == a.Type })
}

// several: may a subject that is so allowed be more than one object?
func several(a api.Allow) bool { return a.Relation != "" || a.Wild }

// twice: does something of a list stand there twice?
func twice[T comparable](l []T) bool { return len(once(l)) < len(l) }

// once: each thing of a list, where it stands first.
func once[T comparable](l []T) []T {
	places := make(map[T]int, len(l))
	var firsts []T
	for k, x := range l {
		if _, ok := places[x]; !ok {
			places[x] = k
			firsts = append(firsts, x)
		}
	}
	return firsts
}
