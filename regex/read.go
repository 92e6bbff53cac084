package regex

import "strings"

// pattern is branches.
type pattern []branch

// branch is pieces.
type branch []piece

const (
	noEnd  = -1 // how often at most, where there is no most
	untold = -1 // how often, where nothing tells it
)

// piece is an atom, and how often it stands.
type piece struct {
	atom
	least, most int
	times       int // as which it counts for the size
}

// atom is a set of characters, or what stands in parentheses.
type atom struct {
	set   set
	group pattern
}

// set is characters; not: all but these.
type set struct {
	spans []span
	not   bool
}

// span is the characters from one to another.
type span struct{ from, to rune }

// has: is a character one of a set's? A byte that begins none is no character, and just sets of all but some have it.
func (s set) has(c rune) bool {
	for _, x := range s.spans {
		if c >= x.from && c <= x.to {
			return !s.not
		}
	}
	return s.not
}

// reader reads a pattern; its methods tell false where a text is none.
type reader struct {
	rest []rune
	deep int // how deep parentheses stand in one another, at most
}

// look is the next character; 0, if there is none, or if it is 0: look is held against signs alone.
func (r *reader) look() rune {
	if len(r.rest) == 0 {
		return 0
	}
	return r.rest[0]
}

// take takes the next character, if it is one of these.
func (r *reader) take(signs string) rune {
	if len(r.rest) == 0 || !strings.ContainsRune(signs, r.rest[0]) {
		return 0
	}
	return r.next()
}

func (r *reader) next() rune {
	c := r.rest[0]
	r.rest = r.rest[1:]
	return c
}

func (r *reader) pattern(depth int) (pattern, bool) {
	r.deep = max(r.deep, depth)
	var p pattern
	for {
		b, ok := r.branch(depth)
		if !ok {
			return nil, false
		}
		p = append(p, b)
		if r.take("|") == 0 {
			return p, true
		}
	}
}

func (r *reader) branch(depth int) (branch, bool) {
	var b branch
	for len(r.rest) > 0 && r.look() != '|' && r.look() != ')' {
		a, ok := r.atom(depth)
		if !ok {
			return nil, false
		}
		p, ok := r.often(a)
		if !ok {
			return nil, false
		}
		b = append(b, p)
	}
	return b, true
}

func (r *reader) atom(depth int) (atom, bool) {
	switch {
	case r.take(".") != 0:
		return atom{set: set{spans: []span{{'\n', '\n'}, {'\r', '\r'}}, not: true}}, true
	case r.take("[") != 0:
		s, ok := r.class()
		return atom{set: s}, ok
	case r.take("(") != 0:
		p, ok := r.pattern(depth + 1)
		return atom{group: p}, ok && r.take(")") != 0
	}
	c, ok := r.character("?*+{}()[]|.")
	return atom{set: set{spans: []span{{c, c}}}}, ok
}

// character reads one that is none of some signs, or a backslash and one that may stand behind it.
func (r *reader) character(but string) (rune, bool) {
	if r.take("\\") != 0 {
		switch c := r.take("()*+-.?[\\]^{|}nrt"); c {
		case 'n':
			return '\n', true
		case 'r':
			return '\r', true
		case 't':
			return '\t', true
		default:
			return c, c != 0
		}
	}
	if len(r.rest) == 0 || strings.ContainsRune(but, r.rest[0]) {
		return 0, false
	}
	return r.next(), true
}

// often reads how often an atom stands.
func (r *reader) often(a atom) (piece, bool) {
	switch r.take("*+?{") {
	case '*':
		return piece{a, 0, noEnd, 1}, true
	case '+':
		return piece{a, 1, noEnd, 1}, true
	case '?':
		return piece{a, 0, 1, 1}, true
	case '{':
		return r.numbers(a)
	}
	return piece{a, 1, 1, untold}, true
}

func (r *reader) numbers(a atom) (piece, bool) {
	least, ok := r.number()
	if !ok {
		return piece{}, false
	}
	p := piece{a, least, least, least}
	if r.take(",") != 0 {
		if p.most, ok = r.number(); ok {
			p.times = p.most
		} else {
			p.most, p.times = noEnd, least+1
		}
	}
	return p, r.take("}") != 0 && (p.most == noEnd || p.least <= p.most)
}

// number reads one or two digits.
func (r *reader) number() (int, bool) {
	const digits = "0123456789"
	c := r.take(digits)
	if c == 0 {
		return 0, false
	}
	n := int(c - '0')
	if c := r.take(digits); c != 0 {
		n = n*10 + int(c-'0')
	}
	return n, true
}

// class reads what stands behind a [.
func (r *reader) class() (set, bool) {
	s := set{not: r.take("^") != 0}
	for r.take("]") == 0 {
		x, ok := r.item(len(s.spans) == 0)
		if !ok {
			return set{}, false
		}
		s.spans = append(s.spans, x)
	}
	return s, len(s.spans) > 0
}

// ends: is the next character but one the end of a class?
func (r *reader) ends() bool { return len(r.rest) > 1 && r.rest[1] == ']' }

func (r *reader) item(first bool) (span, bool) {
	const signs = "[]-"
	if r.look() == '-' && (first || r.ends()) {
		r.next()
		return span{'-', '-'}, true
	}
	from, ok := r.character(signs)
	if !ok || r.look() != '-' || r.ends() {
		return span{from, from}, ok
	}
	r.next()
	to, ok := r.character(signs)
	return span{from, to}, ok && from <= to
}

// size is a pattern's, as far as it is no greater than may be by much.
func (p pattern) size() int {
	n := 0
	for _, b := range p {
		n++
		for _, x := range b {
			n = min(n+x.size(), greatest+1)
		}
	}
	return n
}

func (p piece) size() int {
	n := 1
	if p.group != nil {
		n = p.group.size()
	}
	if p.times == untold {
		return n
	}
	return n*p.times + 1
}
