package flwor

import (
	"slices"
	"strconv"

	"orangery/api"
	"orangery/path"
	"orangery/token"
)

// words are those that begin parts, with their order.
func words() map[string]int {
	return map[string]int{"for": 1, "where": 2, "order": 3, "by": 4, "ascending": 5, "descending": 5, "limit": 6, "return": 7}
}

// part is what stands behind a word, up to the next one.
type part struct {
	word string
	l    []token.Token
}

// text is a part's.
func text(s string, l []token.Token) string {
	if len(l) == 0 {
		return ""
	}
	return s[l[0].From:l[len(l)-1].To]
}

// Parse is a text as a query.
func Parse(s string) (Query, api.Errno) {
	l, e := token.All(s)
	if e != api.OK {
		return Query{}, e
	}
	parts, ok := split(l)
	if !ok {
		return Query{}, api.ErrForm
	}
	q := Query{Most: noLimit}
	for _, p := range parts {
		if e := q.take(s, p); e != api.OK {
			return Query{}, e
		}
	}
	return q, api.OK
}

// split tells a text's parts; false: the words are not as they may be, or a part has a text that may have none, or none that needs one.
func split(l []token.Token) ([]part, bool) {
	all, left := words(), words()
	var parts []part
	rank, depth := 0, 0
	for i, t := range l {
		isWord := false
		if t.Kind == token.Name && depth == 0 && !behindDot(l[:i]) {
			_, isWord = all[t.S]
		}
		if isWord {
			next, ok := left[t.S]
			if !ok || next <= rank {
				return nil, false
			}
			rank = next
			delete(left, t.S)
			parts = append(parts, part{word: t.S})
			continue
		}
		if len(parts) == 0 {
			return nil, false
		}
		depth += opens(t)
		last := &parts[len(parts)-1]
		last.l = append(last.l, t)
	}
	return parts, whole(parts, left)
}

// whole: is there what must be, and what stands together, and has each part a text that needs one, and no other?
func whole(parts []part, left map[string]int) bool {
	met := func(word string) bool {
		_, ok := left[word]
		return !ok
	}
	if !met("for") || !met("return") || met("order") != met("by") || !met("by") && (met("ascending") || met("descending")) {
		return false
	}
	return !slices.ContainsFunc(parts, func(p part) bool { return alone(p.word) != (len(p.l) == 0) })
}

// alone: does a word stand without a text?
func alone(word string) bool {
	return word == "order" || word == "ascending" || word == "descending"
}

func sign(t token.Token, s string) bool { return t.Kind == token.Sign && t.S == s }

func behindDot(l []token.Token) bool {
	return len(l) > 0 && (sign(l[len(l)-1], ".") || sign(l[len(l)-1], ".."))
}

// opens is 1 of a sign that opens, -1 of one that closes.
func opens(t token.Token) int {
	if t.Kind == token.Sign {
		switch t.S {
		case "(", "[", "{":
			return 1
		case ")", "]", "}":
			return -1
		}
	}
	return 0
}

// take reads a part.
func (q *Query) take(s string, p part) (e api.Errno) {
	switch p.word {
	case "for":
		q.For, e = path.Parse(text(s, p.l))
	case "where":
		q.Where = make([]path.Expr, 1)
		q.Where[0], e = expression(text(s, p.l))
	case "by":
		q.By = make([]path.Query, 1)
		q.By[0], e = here(text(s, p.l))
		if e == api.OK && !path.Singular(q.By[0]) {
			e = api.ErrType
		}
	case "descending":
		q.Down = true
	case "limit":
		q.Most, e = limit(text(s, p.l))
	case "return":
		if sign(p.l[0], "{") {
			return q.fields(s, p.l[1:])
		}
		q.Plain, q.Ret = true, make([]Field, 1)
		q.Ret[0].Q, e = here(text(s, p.l))
	}
	return e
}

// expression is a text's, as it stands in a filter.
func expression(text string) (path.Expr, api.Errno) {
	q, e := path.Parse(ahead + text + behind)
	if e != api.OK {
		return path.Expr{}, e
	}
	if len(q.L) != 1 || q.L[0].Deep || len(q.L[0].L) != 1 || q.L[0].L[0].What != path.Filter {
		return path.Expr{}, api.ErrForm
	}
	return q.L[0].L[0].F[0], api.OK
}

// here is a text's query of @.
func here(text string) (path.Query, api.Errno) {
	x, e := expression(text)
	if e != api.OK {
		return path.Query{}, e
	}
	if x.What != path.Path || !x.Q.Rel {
		return path.Query{}, api.ErrForm
	}
	return x.Q, api.OK
}

func limit(text string) (int, api.Errno) {
	n, err := strconv.Atoi(text)
	// What is written as it would be again is digits alone, without a 0 ahead.
	if err != nil || n < 0 || n > mostLimit || strconv.Itoa(n) != text {
		return 0, api.ErrForm
	}
	return n, api.OK
}

// fields reads what stands behind return's brace.
func (q *Query) fields(s string, l []token.Token) api.Errno {
	if len(l) == 1 && sign(l[0], "}") {
		return api.OK
	}
	for {
		if len(l) < 2 || l[0].Kind != token.Text || !sign(l[1], ":") {
			return api.ErrForm
		}
		n := fieldEnd(l[2:]) + 2
		f := Field{Name: l[0].S}
		var e api.Errno
		if f.Q, e = here(text(s, l[2:n])); e != api.OK {
			return e
		}
		if slices.ContainsFunc(q.Ret, func(other Field) bool { return other.Name == f.Name }) {
			return api.ErrTwice
		}
		q.Ret = append(q.Ret, f)
		switch {
		case n < len(l) && sign(l[n], ","):
			l = l[n+1:]
		case n == len(l)-1: // a brace, as nothing else ends a field
			return api.OK
		default:
			return api.ErrForm
		}
	}
}

// fieldEnd is the place of the sign that ends a field's query: a comma, or the brace, outside of all that is open in it.
func fieldEnd(l []token.Token) int {
	depth := 0
	for i, t := range l {
		if depth == 0 && (sign(t, ",") || sign(t, "}")) {
			return i
		}
		depth += opens(t)
	}
	return len(l)
}
