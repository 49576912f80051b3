package knot

import (
	"strings"
	"unicode/utf8"

	"stile/api"
	"stile/bond"
	"stile/who"
)

// maxDigits is how many a number has at most that is taken: so many of them
// never overflow.
const maxDigits = 17

// longest is how many bytes a text of a good subject or tuple has at most: an
// id's, for a name has fewer.
const longest = api.MaxId * utf8.UTFMax

// In: takes from bytes.
type In struct {
	rest   string // empty, once it failed, so that nothing stands there any more
	failed bool
}

// Open: an untying.
func Open(b []byte) *In { return &In{rest: string(b)} }

// Number: of at most so much.
func (i *In) Number(most int) int {
	n, size := number(i.rest)
	if size == 0 || n > most {
		i.fail()
		return 0
	}
	i.rest = i.rest[size:]
	return n
}

// Text: of at most so many bytes.
func (i *In) Text(most int) string {
	n := i.Number(most)
	if n >= len(i.rest) || i.rest[n] != textEnd {
		i.fail()
		return ""
	}
	// A piece of the rest would be memory that the untying has.
	s := strings.Clone(i.rest[:n])
	i.rest = i.rest[n+1:]
	return s
}

// Mark: a mark.
func (i *In) Mark() bool {
	r := front(i.rest)
	if r != yesMark && r != noMark {
		i.fail()
		return false
	}
	i.rest = i.rest[1:]
	return r == yesMark
}

// Subject: a good one.
func (i *In) Subject() api.Subject {
	s := i.subject()
	// A relation that fails is empty, as that of a good subject may be.
	if i.failed || !who.Subject(s) {
		i.fail()
		return api.Subject{}
	}
	return s
}

// Tuple: a good one.
func (i *In) Tuple() api.Tuple {
	t := api.Tuple{
		Type:     i.Text(longest),
		Id:       i.Text(longest),
		Relation: i.Text(longest),
		Subject:  i.subject(),
	}
	if i.failed || !bond.Good(t) {
		i.fail()
		return api.Tuple{}
	}
	return t
}

// Tuples: at most so many good ones.
func (i *In) Tuples(most int) []api.Tuple {
	n := i.Number(most)
	// The number may be far above what stands there: no room is made ahead.
	var l []api.Tuple
	for range n {
		t := i.Tuple()
		if i.failed {
			return nil
		}
		l = append(l, t)
	}
	return l
}

// Left: how many bytes.
func (i *In) Left() int { return len(i.rest) }

// End: is all taken, and right?
func (i *In) End() api.Errno {
	if i.failed || i.rest != "" {
		return api.ErrForm
	}
	return api.OK
}

func (i *In) fail() {
	i.rest, i.failed = "", true
}

// subject takes the texts of one, good or not.
func (i *In) subject() api.Subject {
	return api.Subject{
		Type:     i.Text(longest),
		Id:       i.Text(longest),
		Relation: i.Text(longest),
	}
}

// number: the one at the front of s, and of how many bytes it is, its end
// included; of none, if s doesn't begin with a number.
func number(s string) (n, size int) {
	for at, r := range s {
		if r == numberEnd && at > 0 {
			return n, at + 1
		}
		noughtAhead := n == 0 && at > 0
		if r < '0' || r > '9' || noughtAhead || at == maxDigits {
			return 0, 0
		}
		n = n*10 + int(r-'0')
	}
	return 0, 0
}

// front: the first rune of s; -1, if there is none.
func front(s string) rune {
	for _, r := range s {
		return r
	}
	return -1
}
