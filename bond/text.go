package bond

import (
	"strings"

	"stile/api"
	"stile/glyph"
	"stile/who"
)

// Text: a tuple's.
func Text(t api.Tuple) string {
	// An object's text is that of the one who is it.
	return who.Text(api.Subject{Type: t.Type, Id: t.Id}) + "#" + t.Relation + "@" + who.Text(t.Subject)
}

// Read: a text's tuple.
func Read(s string) (api.Tuple, api.Errno) {
	object, relation, subject := split(s)
	o, e := who.ReadObject(object)
	x, f := who.Read(subject)
	if e != api.OK || f != api.OK || !glyph.Name(relation) {
		return api.Tuple{}, api.ErrForm
	}
	// The relation as it is would be the text's memory.
	return api.Tuple{Type: o.Type, Id: o.Id, Relation: strings.Clone(relation), Subject: x}, api.OK
}

// split: a text's pieces, good or not: ahead of its first #, from there to the
// next @, and behind that. A sign that lacks leaves a piece empty, one that
// stands elsewhere stays within a piece; neither is good, but for a set's #.
func split(s string) (object, relation, subject string) {
	var pieces [3]string
	n, start := 0, 0
	for i, r := range s {
		if n == 0 && r == '#' || n == 1 && r == '@' {
			pieces[n] = s[start:i]
			n, start = n+1, i+1
		}
	}
	pieces[n] = s[start:]
	return pieces[0], pieces[1], pieces[2]
}
