package grammar_test

import (
	"slices"
	"strings"

	"stile/api"
	"stile/grammar"
	"stile/sigil"
)

// rules are the chapter's grammar: of each part its ways, each of parts and of
// tokens. What may stand any number of times, or at most once, is a part with
// an empty way.
var rules = map[string][]string{
	"CONFIG": {"", "type word { RELS } CONFIG"},
	"RELS":   {"", "rel word ALLOWS = UNION ; RELS"},
	"ALLOWS": {"", "[ ALLOW MORE ]"},
	"MORE":   {"", ", ALLOW MORE"},
	"ALLOW":  {"word", "word # word", "word : *"},
	"UNION":  {"MEET OR"},
	"OR":     {"", "| MEET OR"},
	"MEET":   {"LESS AND"},
	"AND":    {"", "& LESS AND"},
	"LESS":   {"ATOM", "ATOM - ATOM"},
	"ATOM":   {"this", "word", "word -> word", "( UNION )"},
}

// stacks are what may follow, each a row of parts and tokens, every first one
// a token; the empty row is there, if nothing need follow.
type stacks map[string]bool

// grow adds to l all that a row may begin with.
func (l stacks) grow(row string) {
	first, rest, _ := strings.Cut(row, " ")
	ways, part := rules[first]
	if !part {
		l[row] = true
		return
	}
	for _, w := range ways {
		l.grow(strings.TrimSpace(w + " " + rest))
	}
}

// behind is what may follow a token, if it stands at the front.
func (l stacks) behind(token string) stacks {
	next := stacks{}
	for row := range l {
		if first, rest, _ := strings.Cut(row, " "); first == token && token != "" {
			next.grow(rest)
		}
	}
	return next
}

// firsts are the tokens that may follow, sorted; "" is there, if none need.
func (l stacks) firsts() []string {
	var all []string
	for row := range l {
		first, _, _ := strings.Cut(row, " ")
		all = append(all, first)
	}
	slices.Sort(all)
	return slices.Compact(all)
}

// terminal is a token as the rules tell it.
func terminal(x sigil.Token) string {
	if x.Kind == sigil.Word {
		return "word"
	}
	return x.Text
}

// model is which error, and where, a text has that must be one whole part.
func model(part, s string) (sigil.Place, api.Errno) {
	l, end, e := sigil.Lex(s)
	if e != api.OK {
		return end, e
	}
	may, open := stacks{}, 0
	may.grow(part)
	for _, x := range l {
		may = may.behind(terminal(x))
		if len(may) == 0 {
			return x.At, api.ErrSyntax
		}
		switch x.Text {
		case "(":
			if open == 8 {
				return x.At, api.ErrDeep
			}
			open++
		case ")":
			open--
		}
	}
	if !may[""] {
		return end, api.ErrSyntax
	}
	return sigil.Place{}, api.OK
}

// asked is what the program answers of a text that must be one whole part:
// what it read, in short, and the error and its place.
func asked(part, s string) (string, sigil.Place, api.Errno) {
	if part == "CONFIG" {
		c, p, e := grammar.Parse(s)
		return ofConfig(c), p, e
	}
	n, p, e := grammar.Expr(s)
	return ofNode(n), p, e
}

// tokens are all that there are, as the rules tell them.
var tokens = []string{"word", "type", "rel", "this", "->", "{", "}", "[", "]", "(", ")", "=", ";", ",", ":", "#", "*", "|", "&", "-"}

// laid is a text of tokens as the rules tell them, with blanks between; each
// word is another one.
func laid(l []string) string {
	var b strings.Builder
	for k, x := range l {
		if x == "word" {
			x = "w" + string(rune('a'+k%26)) + string(rune('a'+k/26%26))
		}
		b.WriteString(x + " ")
	}
	return b.String()
}

// begun goes through all rows of at most most tokens that begin a part, each
// with the tokens that may follow.
func begun(part string, most int, visit func(row, next []string)) {
	var step func(row []string, may stacks)
	step = func(row []string, may stacks) {
		next := may.firsts()
		visit(row, next)
		if len(row) == most {
			return
		}
		for _, x := range next {
			if x != "" {
				step(append(slices.Clone(row), x), may.behind(x))
			}
		}
	}
	may := stacks{}
	may.grow(part)
	step(nil, may)
}
