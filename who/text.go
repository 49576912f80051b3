package who

import "stile/api"

// Text: a subject's.
func Text(s api.Subject) string {
	text := s.Type + ":" + s.Id
	if s.Relation != "" {
		text += "#" + s.Relation
	}
	return text
}

// Read: a text's subject.
func Read(s string) (api.Subject, api.Errno) {
	x := split(s)
	// A # with nothing behind it leaves the pieces of the text without it.
	if !Subject(x) || Text(x) != s {
		return api.Subject{}, api.ErrForm
	}
	return Of(api.Object{Type: x.Type, Id: x.Id}, x.Relation), api.OK
}

// ReadObject: a text's object.
func ReadObject(s string) (api.Object, api.Errno) {
	// An object's text is that of the one who is it.
	x, e := Read(s)
	if e != api.OK || !One(x) {
		return api.Object{}, api.ErrForm
	}
	return api.Object{Type: x.Type, Id: x.Id}, api.OK
}

// split: a text's pieces, good or not: ahead of its first colon, from there to
// the next #, and behind that. A sign that comes again stays within a piece,
// which then is neither a name nor an id.
func split(s string) api.Subject {
	var pieces [3]string
	n, start := 0, 0
	for i, r := range s {
		if n == 0 && r == ':' || n == 1 && r == '#' {
			pieces[n] = s[start:i]
			n, start = n+1, i+1
		}
	}
	pieces[n] = s[start:]
	return api.Subject{Type: pieces[0], Id: pieces[1], Relation: pieces[2]}
}
