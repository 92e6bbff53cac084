package path

import (
	"slices"

	"orangery/api"
	"orangery/dec"
	"orangery/utf"
)

// every: is it so of all?
func every[T any](l []T, so func(T) bool) bool {
	return !slices.ContainsFunc(l, func(x T) bool { return !so(x) })
}

// typed: does each call and each comparison ask what it may, and does each filter ask for a truth?
func typed(q Query) bool {
	return every(q.L, func(s Seg) bool {
		return every(s.L, func(x Sel) bool { return every(x.F, asksTruth) })
	})
}

// asksTruth: is an expression a truth's, and typed?
func asksTruth(x Expr) bool { return truth(x) && typedIn(x) }

// asksValue: is an expression a value's, and typed?
func asksValue(x Expr) bool { return ofValue(x) && typedIn(x) }

func truth(x Expr) bool {
	switch x.What {
	case Or, And, Not, Cmp, Path:
		return true
	case Call:
		return x.Op == "match" || x.Op == "search"
	}
	return false
}

func ofValue(x Expr) bool {
	switch x.What {
	case Lit:
		return true
	case Path:
		return Singular(x.Q)
	case Call:
		return x.Op == "length" || x.Op == "count" || x.Op == "value"
	}
	return false
}

// typedIn: is all typed that stands in an expression?
func typedIn(x Expr) bool {
	switch x.What {
	case Or, And, Not:
		return every(x.L, asksTruth)
	case Cmp:
		return every(x.L, asksValue)
	case Path:
		return typed(x.Q)
	case Call:
		return typedCall(x)
	}
	return true
}

func typedCall(x Expr) bool {
	switch x.Op {
	case "length":
		return len(x.L) == 1 && asksValue(x.L[0])
	case "count", "value":
		return len(x.L) == 1 && x.L[0].What == Path && typedIn(x.L[0])
	case "match", "search":
		return len(x.L) == 2 && every(x.L, asksValue)
	}
	return false
}

// shaped: has a query just the fields that its parts have, and are these such as a text can tell?
func shaped(q Query) bool {
	return every(q.L, func(s Seg) bool { return len(s.L) > 0 && every(s.L, shapedSel) })
}

func shapedSel(x Sel) bool {
	if x.Name != "" && x.What != Name || x.At != 0 && x.What != Index || len(x.F) > 0 && x.What != Filter {
		return false
	}
	if x.What != Slice && (x.Has != [3]bool{} || x.S != [3]int{}) {
		return false
	}
	switch x.What {
	case Name:
		return characters(x.Name)
	case Wild:
		return true
	case Index:
		return near(x.At)
	case Slice:
		for i, n := range x.S {
			if !near(n) || n != 0 && !x.Has[i] {
				return false
			}
		}
		return true
	case Filter:
		return len(x.F) == 1 && shapedExpr(x.F[0])
	}
	return false
}

func near(n int) bool { return n >= -greatest && n <= greatest }

func characters(s string) bool { return utf.Check([]byte(s)) < 0 }

func shapedExpr(x Expr) bool {
	if x.Op != "" && x.What != Cmp && x.What != Call ||
		len(x.L) > 0 && (x.What == Lit || x.What == Path) ||
		x.What != Path && (x.Q.Rel || len(x.Q.L) > 0) ||
		!scalar(x.V) || x.What != Lit && (x.V.Kind != api.Null) ||
		!every(x.L, shapedExpr) {
		return false
	}
	switch x.What {
	case Or, And:
		return len(x.L) > 1
	case Not:
		return len(x.L) == 1
	case Cmp:
		return len(x.L) == 2 && compares(x.Op)
	case Path:
		return shaped(x.Q)
	}
	return x.What == Lit || x.What == Call
}

// scalar: is a value one that a literal can tell, with no fields but those of its kind?
func scalar(v api.Val) bool {
	if len(v.L) > 0 || len(v.M) > 0 ||
		v.B && v.Kind != api.Bool ||
		v.N != (api.Dec{}) && v.Kind != api.Num ||
		v.S != "" && v.Kind != api.Str {
		return false
	}
	return v.Kind >= api.Null && v.Kind <= api.Str && dec.Sane(v.N) && characters(v.S)
}

// depth is how deep expressions of filters, parentheses and calls stand in one another, as Print has them.
func depth(q Query) int {
	n := 0
	for _, s := range q.L {
		for _, x := range s.L {
			for _, y := range x.F {
				n = max(n, 1+depthOf(y))
			}
		}
	}
	return n
}

func depthOf(x Expr) int {
	n := depth(x.Q)
	for _, y := range x.L {
		inner := depthOf(y)
		if parenthesised(x, y) || x.What == Call {
			inner++
		}
		n = max(n, inner)
	}
	if x.What == Call {
		n = max(n, 1)
	}
	return n
}
