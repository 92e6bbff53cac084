package walk

import (
	"iter"

	"orangery/api"
	"orangery/filter"
	"orangery/path"
)

// query is one as it is asked. What one that begins at the root tells is the same wherever it is asked: it is kept.
type query struct {
	rel  bool
	l    []segment
	told []*spot
	kept bool
}

type segment struct {
	deep bool
	l    []selector
}

// selector is one; what a filter asks has a number, by which each spot keeps the answer.
type selector struct {
	path.Sel
	asks   *expression
	number int
}

type expression struct {
	what int
	op   string
	l    []*expression
	q    *query
	v    api.Val
}

// asker asks queries of a root.
type asker struct {
	root    *spot
	filters int
}

func newAsker(root api.Val) *asker { return &asker{root: &spot{v: root}} }

// query makes one ready to be asked.
func (a *asker) query(q path.Query) *query {
	out := &query{rel: q.Rel, l: make([]segment, len(q.L))}
	for i, s := range q.L {
		out.l[i] = segment{deep: s.Deep}
		for _, x := range s.L {
			out.l[i].l = append(out.l[i].l, a.selector(x))
		}
	}
	return out
}

func (a *asker) selector(x path.Sel) selector {
	out := selector{Sel: x}
	if x.What == path.Filter && len(x.F) == 1 {
		out.number = a.filters
		a.filters++
		out.asks = a.expression(x.F[0])
	}
	return out
}

func (a *asker) expression(x path.Expr) *expression {
	out := &expression{what: x.What, op: x.Op, v: x.V}
	if x.What == path.Path {
		out.q = a.query(x.Q)
	}
	for _, y := range x.L {
		out.l = append(out.l, a.expression(y))
	}
	return out
}

// ask is what a query tells of a spot, or of the root.
func (a *asker) ask(q *query, now *spot) ([]*spot, api.Errno) {
	if q.rel {
		return a.follow(q.l, now)
	}
	if !q.kept {
		told, e := a.follow(q.l, a.root)
		if e != api.OK {
			return nil, e
		}
		q.told, q.kept = told, true
	}
	return q.told, api.OK
}

func (a *asker) follow(l []segment, from *spot) ([]*spot, api.Errno) {
	now := []*spot{from}
	for _, s := range l {
		var next []*spot
		for _, from := range now {
			for x, e := range a.tells(s, from) {
				if e != api.OK {
					return nil, e
				}
				if len(next) == api.MaxFound {
					return nil, api.ErrLimit
				}
				next = append(next, x)
			}
		}
		now = next
	}
	return now, api.OK
}

// tells is what a segment tells of a spot; an error ends it.
func (a *asker) tells(s segment, from *spot) iter.Seq2[*spot, api.Errno] {
	return func(yield func(*spot, api.Errno) bool) {
		for at := range from.asked(s.deep) {
			for _, x := range s.l {
				for told, e := range a.selects(x, at) {
					if !yield(told, e) || e != api.OK {
						return
					}
				}
			}
		}
	}
}

// selects is what a selector tells of a spot.
func (a *asker) selects(x selector, at *spot) iter.Seq2[*spot, api.Errno] {
	return func(yield func(*spot, api.Errno) bool) {
		switch x.What {
		case path.Name:
			if i := at.member(x.Name); i >= 0 {
				yield(at.children()[i], api.OK)
			}
		case path.Index:
			if i := at.element(x.At); i >= 0 {
				yield(at.children()[i], api.OK)
			}
		case path.Slice:
			for _, i := range filter.Slice(at.elements(), x.Has, x.S) {
				if !yield(at.children()[i], api.OK) {
					return
				}
			}
		case path.Wild, path.Filter:
			a.choose(x, at, yield)
		}
	}
}

// choose goes over all children, or those that a filter takes.
func (a *asker) choose(x selector, at *spot, yield func(*spot, api.Errno) bool) {
	if x.What == path.Filter && x.asks == nil {
		return
	}
	for _, kid := range at.children() {
		if x.What == path.Filter {
			takes, e := a.takes(x, kid)
			if e != api.OK {
				yield(nil, e)
				return
			}
			if !takes {
				continue
			}
		}
		if !yield(kid, api.OK) {
			return
		}
	}
}

// takes: does a filter take a spot? Each spot is asked once, however often a query comes by.
func (a *asker) takes(x selector, at *spot) (bool, api.Errno) {
	if len(at.known) <= x.number {
		at.known = append(at.known, make([]answer, a.filters-len(at.known))...)
	}
	if at.known[x.number] == unknown {
		ok, e := a.truth(x.asks, at)
		if e != api.OK {
			return false, e
		}
		at.known[x.number] = no
		if ok {
			at.known[x.number] = yes
		}
	}
	return at.known[x.number] == yes, api.OK
}

// truth: is an expression true of a spot?
func (a *asker) truth(x *expression, now *spot) (bool, api.Errno) {
	switch x.what {
	case path.Or, path.And:
		for _, y := range x.l {
			ok, e := a.truth(y, now)
			if e != api.OK || ok == (x.what == path.Or) {
				return ok, e
			}
		}
		return x.what == path.And, api.OK
	case path.Not:
		ok, e := a.truth(x.argument(0), now)
		return !ok && e == api.OK, e
	case path.Path:
		l, e := a.ask(x.q, now)
		return len(l) > 0, e
	case path.Cmp, path.Call:
		return a.holds(x, now)
	}
	return false, api.OK
}

// argument is one of an expression's; of one that is not there nothing is true.
func (x *expression) argument(i int) *expression {
	if i < len(x.l) {
		return x.l[i]
	}
	return &expression{}
}

// holds: does a comparison hold, or a call of a truth's?
func (a *asker) holds(x *expression, now *spot) (bool, api.Errno) {
	if x.what == path.Call && x.op != "match" && x.op != "search" {
		return false, api.OK
	}
	first, e := a.result(x.argument(0), now)
	if e != api.OK {
		return false, e
	}
	second, e := a.result(x.argument(1), now)
	if e != api.OK {
		return false, e
	}
	if x.what == path.Call {
		return filter.Match(first, second, x.op == "match"), api.OK
	}
	return filter.Compare(first, x.op, second), api.OK
}

// result is a value's expression's, of a spot.
func (a *asker) result(x *expression, now *spot) (filter.Res, api.Errno) {
	switch x.what {
	case path.Lit:
		return filter.Res{Is: true, V: x.v}, api.OK
	case path.Path:
		l, e := a.values(x.q, now)
		return filter.Only(l), e
	case path.Call:
		return a.called(x, now)
	}
	return filter.Res{}, api.OK
}

func (a *asker) called(x *expression, now *spot) (filter.Res, api.Errno) {
	if x.op == "length" {
		r, e := a.result(x.argument(0), now)
		return filter.Length(r), e
	}
	q := x.argument(0).q
	if q == nil || x.op != "count" && x.op != "value" {
		return filter.Res{}, api.OK
	}
	l, e := a.values(q, now)
	switch {
	case e != api.OK:
		return filter.Res{}, e
	case x.op == "count":
		return filter.Count(len(l)), api.OK
	}
	return filter.Only(l), api.OK
}

// values are those of what a query tells of a spot.
func (a *asker) values(q *query, now *spot) ([]api.Val, api.Errno) {
	l, e := a.ask(q, now)
	if e != api.OK {
		return nil, e
	}
	out := make([]api.Val, len(l))
	for i, s := range l {
		out[i] = s.v
	}
	return out, api.OK
}
