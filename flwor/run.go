package flwor

import (
	"cmp"
	"slices"

	"orangery/api"
	"orangery/path"
	"orangery/plan"
	"orangery/streams"
	"orangery/value"
	"orangery/walk"
)

// Rank compares two values.
func Rank(a, b api.Val) int {
	if a.Kind != b.Kind {
		return cmp.Compare(a.Kind, b.Kind)
	}
	n, _ := value.Compare(a, b)
	return n
}

// hit is one of a query's, with its document's value; by is what it is ordered by, one value or none.
type hit struct {
	v, root api.Val
	by      []api.Val
}

// Run is what a query tells.
func Run(x streams.Index, q Query, how int) ([]api.Val, api.Errno) {
	if !Sane(q) {
		return nil, api.ErrArg
	}
	hits, e := found(x, q, how)
	if e != api.OK {
		return nil, e
	}
	if hits, e = ordered(q, hits); e != api.OK {
		return nil, e
	}
	if q.Most != noLimit {
		hits = hits[:min(q.Most, len(hits))]
	}
	var out []api.Val
	for _, h := range hits {
		l, e := tells(q, h)
		if e != api.OK {
			return nil, e
		}
		out = append(out, l...)
		if len(out) > api.MaxFound {
			return nil, api.ErrLimit
		}
	}
	return out, api.OK
}

// found are the hits that count.
func found(x streams.Index, q Query, how int) ([]hit, api.Errno) {
	l, e := plan.Run(x, q.For, how)
	if e != api.OK {
		return nil, e
	}
	// Of the root itself a walk tells each document's value.
	docs, e := plan.Run(x, path.Query{}, plan.Walk)
	if e != api.OK {
		return nil, e
	}
	roots := map[int]api.Val{}
	for _, d := range slices.Backward(docs) {
		roots[d.Doc] = d.V
	}
	var hits []hit
	for _, h := range l {
		one := hit{v: h.V, root: roots[h.Doc]}
		counts, e := one.counts(q)
		if e != api.OK {
			return nil, e
		}
		if counts {
			hits = append(hits, one)
		}
	}
	return hits, api.OK
}

func (h hit) counts(q Query) (bool, api.Errno) {
	if len(q.Where) == 0 {
		return true, api.OK
	}
	return walk.True(q.Where[0], h.root, h.v)
}

// ordered are hits as they are asked for.
func ordered(q Query, hits []hit) ([]hit, api.Errno) {
	if len(q.By) == 0 {
		return hits, api.OK
	}
	for i, h := range hits {
		var e api.Errno
		if hits[i].by, e = walk.Here(q.By[0], h.root, h.v); e != api.OK {
			return nil, e
		}
	}
	slices.SortStableFunc(hits, func(a, b hit) int {
		if q.Down {
			a, b = b, a
		}
		return slices.CompareFunc(a.by, b.by, Rank)
	})
	return hits, api.OK
}

// tells is what a query tells of a hit.
func tells(q Query, h hit) ([]api.Val, api.Errno) {
	v := api.Val{Kind: api.Obj}
	for _, f := range q.Ret {
		l, e := walk.Here(f.Q, h.root, h.v)
		switch {
		case e != api.OK || q.Plain:
			return l, e
		case len(l) == 1:
			v.M = append(v.M, api.Member{Key: f.Name, V: l[0]})
		}
	}
	return []api.Val{v}, api.OK
}
