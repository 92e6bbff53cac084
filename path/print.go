package path

import (
	"strconv"
	"strings"

	"orangery/api"
	"orangery/dec"
	"orangery/token"
)

// Print is a query as a text.
func Print(q Query) string {
	var w writer
	w.query(q)
	return w.String()
}

type writer struct{ strings.Builder }

func (w *writer) query(q Query) {
	if q.Rel {
		w.WriteByte('@')
	} else {
		w.WriteByte('$')
	}
	for _, s := range q.L {
		if s.Deep {
			w.WriteString("..")
		}
		w.WriteByte('[')
		between(w, s.L, ",", w.selector)
		w.WriteByte(']')
	}
}

// between writes parts with a sign between each two.
func between[T any](w *writer, l []T, sign string, part func(T)) {
	for i, x := range l {
		if i > 0 {
			w.WriteString(sign)
		}
		part(x)
	}
}

func (w *writer) selector(x Sel) {
	switch x.What {
	case Name:
		w.WriteString(token.Quote(x.Name))
	case Wild:
		w.WriteByte('*')
	case Index:
		w.WriteString(strconv.Itoa(x.At))
	case Slice:
		w.slice(x)
	case Filter:
		w.WriteByte('?')
		between(w, x.F, "", w.expression)
	}
}

func (w *writer) slice(x Sel) {
	for i, n := range x.S {
		if i == 1 || i == 2 && x.Has[2] {
			w.WriteByte(':')
		}
		if x.Has[i] {
			w.WriteString(strconv.Itoa(n))
		}
	}
}

func (w *writer) expression(x Expr) {
	switch x.What {
	case Or:
		between(w, x.L, " || ", func(y Expr) { w.inside(x, y) })
	case And:
		between(w, x.L, " && ", func(y Expr) { w.inside(x, y) })
	case Not:
		w.WriteByte('!')
		between(w, x.L, "", func(y Expr) { w.inside(x, y) })
	case Cmp:
		between(w, x.L, " "+x.Op+" ", w.expression)
	case Lit:
		w.literal(x.V)
	case Path:
		w.query(x.Q)
	case Call:
		w.WriteString(x.Op)
		w.WriteByte('(')
		between(w, x.L, ",", w.expression)
		w.WriteByte(')')
	}
}

// inside writes what stands in an Or, And or Not, in parentheses where it would be something else without.
func (w *writer) inside(x, y Expr) {
	if !parenthesised(x, y) {
		w.expression(y)
		return
	}
	w.WriteByte('(')
	w.expression(y)
	w.WriteByte(')')
}

// parenthesised: does y stand in parentheses where it stands in x?
func parenthesised(x, y Expr) bool {
	switch x.What {
	case Or:
		return y.What == Or
	case And:
		return y.What == Or || y.What == And
	case Not:
		return y.What != Path && y.What != Call
	}
	return false
}

func (w *writer) literal(v api.Val) {
	switch v.Kind {
	case api.Null:
		w.WriteString("null")
	case api.Bool:
		w.WriteString(strconv.FormatBool(v.B))
	case api.Num:
		w.WriteString(dec.Print(v.N))
	case api.Str:
		w.WriteString(token.Quote(v.S))
	}
}
