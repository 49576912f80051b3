package bond

import (
	"strings"

	"stile/api"
	"stile/glyph"
	"stile/who"
)

// Filter: what a tuple must have.
type Filter struct {
	Type, Id, Relation                      string
	SubjectType, SubjectId, SubjectRelation string
	Bare                                    bool
}

// all stands in place of a subject's id for all of a type. It is no id itself.
const all = "*"

// Right: is a filter good?
func Right(f Filter) bool {
	return formed(f) && backed(f)
}

// Match: does a filter match a tuple?
func Match(f Filter, t api.Tuple) bool {
	x := t.Subject
	for _, pair := range [6][2]string{
		{f.Type, t.Type},
		{f.Id, t.Id},
		{f.Relation, t.Relation},
		{f.SubjectType, x.Type},
		{f.SubjectId, x.Id},
		{f.SubjectRelation, x.Relation},
	} {
		if pair[0] != "" && pair[0] != pair[1] {
			return false
		}
	}
	return !f.Bare || x.Relation == ""
}

// Pick: those that it matches.
func Pick(f Filter, l []api.Tuple) []api.Tuple {
	var picked []api.Tuple
	for _, t := range l {
		if Match(f, t) {
			picked = append(picked, apart(t))
		}
	}
	return picked
}

// formed: is each field that is set of its form?
func formed(f Filter) bool {
	for _, name := range [4]string{f.Type, f.Relation, f.SubjectType, f.SubjectRelation} {
		if name != "" && !glyph.Name(name) {
			return false
		}
	}
	return (f.Id == "" || glyph.Id(f.Id)) &&
		(f.SubjectId == "" || f.SubjectId == all || glyph.Id(f.SubjectId))
}

// backed: does each field that is set have those that it can't do without, and
// none that it rules out?
func backed(f Filter) bool {
	for _, pair := range [3][2]string{
		{f.Id, f.Type},
		{f.SubjectId, f.SubjectType},
		{f.SubjectRelation, f.SubjectType},
	} {
		if pair[0] != "" && pair[1] == "" {
			return false
		}
	}
	return !f.Bare || f.SubjectType != "" && f.SubjectRelation == ""
}

// apart: the tuple, with none of its texts in memory of the one handed in.
func apart(t api.Tuple) api.Tuple {
	return api.Tuple{
		Type:     strings.Clone(t.Type),
		Id:       strings.Clone(t.Id),
		Relation: strings.Clone(t.Relation),
		Subject:  who.Of(api.Object{Type: t.Subject.Type, Id: t.Subject.Id}, t.Subject.Relation),
	}
}
