package grammar

import "stile/sigil"

// none is the kind of what stands behind the last token. No token has it.
const none = 0

// reader: takes tokens from the front. With the first thing that is wrong it
// fails: from then on it stands still, so that it tells where that is, and
// what is read is to be thrown away.
type reader struct {
	rest []sigil.Token
	end  sigil.Place // behind the text's last rune
	open int         // how many brackets are
	err  error
}

// next: the kind of the token that may be taken.
func (r *reader) next() int {
	if r.err != nil || len(r.rest) == 0 {
		return none
	}
	return r.rest[0].Kind
}

// at: the place of the next token, or of the end.
func (r *reader) at() sigil.Place {
	if len(r.rest) == 0 {
		return r.end
	}
	return r.rest[0].At
}

// take: takes a token, if it is of this kind: was it?
func (r *reader) take(kind int) bool {
	if r.next() != kind {
		return false
	}
	r.rest = r.rest[1:]
	return true
}

// need: takes a token, which must be of this kind.
func (r *reader) need(kind int) {
	if !r.take(kind) {
		r.fail(errWrong)
	}
}

// word: takes a word, which must stand there.
func (r *reader) word() string {
	ahead := r.rest
	if !r.take(sigil.Word) {
		r.fail(errWrong)
		return ""
	}
	return ahead[0].Text
}

// fail: the first thing that is wrong is the one that is told.
func (r *reader) fail(err error) {
	if r.err == nil {
		r.err = err
	}
}

// each: takes a token of the kind first, and what one reads behind it, as
// often as such a token stands there.
func each[T any](r *reader, first int, one func(r *reader) T) []T {
	var l []T
	for r.take(first) {
		l = append(l, one(r))
	}
	return l
}

// list: what one reads, and what it reads behind each sign that follows.
func list[T any](r *reader, sign int, one func(r *reader) T) []T {
	l := []T{one(r)}
	return append(l, each(r, sign, one)...)
}
