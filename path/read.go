package path

import (
	"strconv"
	"strings"

	"orangery/api"
	"orangery/token"
)

// reader reads a query from its tokens.
type reader struct {
	s    string
	l    []token.Token
	at   int
	nest int // expressions of filters, parentheses and calls that are open
	deep bool
}

// misfit ends the reading, from wherever a token stands that may not.
type misfit struct{}

// all reads all tokens; false: they are no query.
func (r *reader) all() (q Query, ok bool) {
	defer func() {
		if _, bad := recover().(misfit); bad {
			q, ok = Query{}, false
		}
	}()
	if !r.sees("$") {
		panic(misfit{})
	}
	q = r.query()
	return q, r.at == len(r.l)
}

// look is the next token.
func (r *reader) look() token.Token {
	if r.at < len(r.l) {
		return r.l[r.at]
	}
	return token.Token{Kind: token.End}
}

// sees: is the next token this sign?
func (r *reader) sees(sign string) bool {
	t := r.look()
	return t.Kind == token.Sign && t.S == sign
}

// take goes behind a sign, if it is there.
func (r *reader) take(sign string) bool {
	ok := r.sees(sign)
	if ok {
		r.at++
	}
	return ok
}

func (r *reader) need(sign string) {
	if !r.take(sign) {
		panic(misfit{})
	}
}

// list reads parts with a sign between them, one at least.
func list[T any](r *reader, sign string, part func() T) []T {
	l := []T{part()}
	for r.take(sign) {
		l = append(l, part())
	}
	return l
}

// within reads what counts for the depth.
func within[T any](r *reader, part func() T) T {
	r.nest++
	r.deep = r.deep || r.nest > deepest
	x := part()
	r.nest--
	return x
}

// query reads $ or @, and segments.
func (r *reader) query() Query {
	q := Query{Rel: r.sees("@")}
	r.at++
	for {
		switch {
		case r.take("."):
			q.L = append(q.L, Seg{L: []Sel{r.short()}})
		case r.take(".."):
			q.L = append(q.L, Seg{Deep: true, L: r.behindDots()})
		case r.sees("["):
			q.L = append(q.L, Seg{L: r.brackets()})
		default:
			return q
		}
	}
}

func (r *reader) behindDots() []Sel {
	if r.sees("[") {
		return r.brackets()
	}
	return []Sel{r.short()}
}

// short reads a selector without brackets.
func (r *reader) short() Sel {
	if r.take("*") {
		return Sel{What: Wild}
	}
	t := r.look()
	if t.Kind != token.Name {
		panic(misfit{})
	}
	r.at++
	return Sel{What: Name, Name: t.S}
}

func (r *reader) brackets() []Sel {
	r.need("[")
	l := list(r, ",", r.selector)
	r.need("]")
	return l
}

func (r *reader) selector() Sel {
	t := r.look()
	switch {
	case t.Kind == token.Text:
		r.at++
		return Sel{What: Name, Name: t.S}
	case r.take("*"):
		return Sel{What: Wild}
	case r.take("?"):
		return Sel{What: Filter, F: []Expr{within(r, r.expression)}}
	}
	from, has := r.whole()
	if r.sees(":") {
		return r.slice(from, has)
	}
	if !has {
		panic(misfit{})
	}
	return Sel{What: Index, At: from}
}

// slice reads what stands behind a slice's first number, or where it might stand.
func (r *reader) slice(from int, has bool) Sel {
	x := Sel{What: Slice, Has: [3]bool{has}, S: [3]int{from}}
	for i := 1; i < 3 && r.take(":"); i++ {
		x.S[i], x.Has[i] = r.whole()
	}
	return x
}

// whole reads a whole number; false: no number stands there.
func (r *reader) whole() (int, bool) {
	t := r.look()
	if t.Kind != token.Number {
		return 0, false
	}
	text := r.s[t.From:t.To]
	digits := strings.TrimPrefix(text, "-")
	n, err := strconv.Atoi(text)
	if err != nil || text == "-0" || len(digits) > 1 && digits[0] == '0' || n > greatest || n < -greatest {
		panic(misfit{})
	}
	r.at++
	return n, true
}

// expression reads alternatives.
func (r *reader) expression() Expr { return r.joined(Or, "||", r.terms) }

func (r *reader) terms() Expr { return r.joined(And, "&&", r.term) }

// joined reads parts with a sign between them; one alone is itself.
func (r *reader) joined(what int, sign string, part func() Expr) Expr {
	l := list(r, sign, part)
	if len(l) == 1 {
		return l[0]
	}
	return Expr{What: what, L: l}
}

func (r *reader) term() Expr {
	switch {
	case r.take("!"):
		return Expr{What: Not, L: []Expr{r.negated()}}
	case r.sees("("):
		return within(r, r.parentheses)
	}
	x := r.operand()
	t := r.look()
	if t.Kind != token.Sign || !compares(t.S) {
		return x
	}
	r.at++
	return Expr{What: Cmp, Op: t.S, L: []Expr{x, r.operand()}}
}

// compares: is a sign one that stands between the two of a Cmp?
func compares(sign string) bool {
	switch sign {
	case "==", "!=", "<=", ">=", "<", ">":
		return true
	}
	return false
}

// negated reads what stands behind a !.
func (r *reader) negated() Expr {
	if r.sees("(") {
		return within(r, r.parentheses)
	}
	x := r.operand()
	if x.What == Lit {
		panic(misfit{})
	}
	return x
}

func (r *reader) parentheses() Expr {
	r.need("(")
	x := r.expression()
	r.need(")")
	return x
}

// operand reads a Lit, a Path or a Call.
func (r *reader) operand() Expr {
	if r.sees("$") || r.sees("@") {
		return Expr{What: Path, Q: r.query()}
	}
	t := r.look()
	r.at++
	switch t.Kind {
	case token.Number:
		return Expr{What: Lit, V: api.Val{Kind: api.Num, N: t.N}}
	case token.Text:
		return Expr{What: Lit, V: api.Val{Kind: api.Str, S: t.S}}
	case token.Name:
		return r.named(t.S)
	}
	panic(misfit{})
}

// named reads what begins by a name.
func (r *reader) named(name string) Expr {
	switch name {
	case "true", "false":
		return Expr{What: Lit, V: api.Val{Kind: api.Bool, B: name == "true"}}
	case "null":
		return Expr{What: Lit}
	case "length", "count", "match", "search", "value":
		return Expr{What: Call, Op: name, L: within(r, r.asked)}
	}
	panic(misfit{})
}

// asked reads what a call asks, in parentheses.
func (r *reader) asked() []Expr {
	r.need("(")
	if r.take(")") {
		return nil
	}
	l := list(r, ",", r.operand)
	r.need(")")
	return l
}
