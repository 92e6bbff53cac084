package plan

import (
	"cmp"
	"slices"

	"orangery/api"
	"orangery/guide"
	"orangery/joins"
	"orangery/keys"
	"orangery/path"
	"orangery/shred"
	"orangery/streams"
	"orangery/value"
)

// isName: is a segment of one name, not deep?
func isName(s path.Seg) bool { return !s.Deep && oneName(s) }

func oneName(s path.Seg) bool { return len(s.L) == 1 && s.L[0].What == path.Name }

func every(l []path.Seg, so func(path.Seg) bool) bool {
	return !slices.ContainsFunc(l, func(s path.Seg) bool { return !so(s) })
}

// isChain: is a query of one segment at least, each of one name, at most one of them deep?
func isChain(q path.Query) bool {
	deep := 0
	for _, s := range q.L {
		if s.Deep {
			deep++
		}
	}
	return len(q.L) > 0 && deep <= 1 && every(q.L, oneName)
}

// isSearch: is a query of names, and behind them a filter that holds what stands at names against a literal?
func isSearch(q path.Query) bool {
	n := len(q.L) - 1
	if n < 0 || !every(q.L[:n], isName) || q.L[n].Deep || len(q.L[n].L) != 1 || q.L[n].L[0].What != path.Filter {
		return false
	}
	x := q.L[n].L[0].F[0]
	if x.What != path.Cmp || x.Op != "==" {
		return false
	}
	a, b := x.L[0], x.L[1]
	return a.What == path.Path && a.Q.Rel && every(a.Q.L, isName) && b.What == path.Lit
}

// pats are names as what a step is asked for.
func pats(l []path.Seg) []guide.Pat {
	var out []guide.Pat
	for _, s := range l {
		out = append(out, guide.Pat{What: guide.Name, Name: s.L[0].Name})
	}
	return out
}

// named are the items whose last step is a segment's name.
func named(x streams.Index, s path.Seg) []streams.Item {
	return streams.Match(x, append([]guide.Pat{{What: guide.Deep}}, pats([]path.Seg{s})...))
}

func joinsCost(x streams.Index, q path.Query) int {
	n := len(x.Docs)
	for _, s := range q.L {
		n += len(named(x, s))
	}
	return n
}

// joined joins the items of each segment to those of the one ahead.
func joined(x streams.Index, q path.Query) ([]Hit, api.Errno) {
	l := [][]streams.Item{streams.Match(x, nil)}
	parent := []bool{false}
	below := 0 // segments from the deep one on
	for _, s := range q.L {
		l = append(l, named(x, s))
		parent = append(parent, !s.Deep)
		if s.Deep || below > 0 {
			below++
		}
	}
	ends, _ := joins.Chain(l, parent)
	var found []streams.Item
	for _, i := range ends {
		found = append(found, l[len(l)-1][i])
	}
	return hits(x, ordered(x, found, below)), api.OK
}

// ordered are the ends of a chain as a walk comes by them: a deep segment tells what stands in one value ahead of what stands in the next, so many levels above the ends.
func ordered(x streams.Index, found []streams.Item, levels int) []streams.Item {
	from := map[streams.Item]int{}
	for _, it := range found {
		up, _ := streams.Up(x, it, it.Level-levels)
		from[it] = up.Start
	}
	slices.SortStableFunc(found, func(a, b streams.Item) int {
		return cmp.Or(cmp.Compare(a.Doc, b.Doc), cmp.Compare(from[a], from[b]))
	})
	return found
}

// asked is what a search looks for: the steps to the values, how deep what is told stands, and the value's part.
func asked(q path.Query) ([]guide.Pat, int, keys.Part) {
	n := len(q.L) - 1
	x := q.L[n].L[0].F[0]
	l := append(pats(q.L[:n]), guide.Pat{What: guide.Any})
	p, _ := keys.Scalar(x.L[1].V)
	return append(l, pats(x.L[0].Q.L)...), n + 1, p
}

func indexCost(x streams.Index, q path.Query) int {
	l, _, _ := asked(q)
	return len(streams.Match(x, l))
}

// lookedUp looks the value up on each line where it may be.
func lookedUp(x streams.Index, q path.Query) ([]Hit, api.Errno) {
	l, level, p := asked(q)
	var found []streams.Item
	for _, line := range guide.Match(x.G, l) {
		for _, it := range streams.Equal(x, line, p) {
			if up, ok := streams.Up(x, it, level); ok {
				found = append(found, up)
			}
		}
	}
	slices.SortFunc(found, func(a, b streams.Item) int {
		return cmp.Or(cmp.Compare(a.Doc, b.Doc), cmp.Compare(a.Start, b.Start))
	})
	return hits(x, found), api.OK
}

// hits are items, by document, with their places and values.
func hits(x streams.Index, found []streams.Item) []Hit {
	var out []Hit
	for _, d := range x.Docs {
		n := slices.IndexFunc(found, func(it streams.Item) bool { return it.Doc != d.ID })
		if n < 0 {
			n = len(found)
		}
		if n == 0 {
			continue
		}
		v, _ := shred.Build(d.L)
		all := places(d.L)
		for _, it := range found[:n] {
			at := all[it.At]
			w, _ := value.At(v, at)
			out = append(out, Hit{Doc: d.ID, Place: value.Place(at), V: w})
		}
		found = found[n:]
	}
	return out
}

// places are those of all records, which are sound: shred.Place would ask of each whether they are.
func places(l []shred.Rec) [][]api.Step {
	out := make([][]api.Step, len(l))
	last := make([]int, len(l)) // the last record of each level
	kids := make([]int, len(l)) // how many stand in it, so far
	for i, r := range l {
		last[r.Level], kids[r.Level] = i, 0
		if r.Level == 0 {
			continue
		}
		up := r.Level - 1
		step := api.Step{Named: r.Named, Name: r.Name}
		if !r.Named {
			step.At = kids[up]
		}
		kids[up]++
		out[i] = append(slices.Clip(out[last[up]]), step)
	}
	return out
}

// made: is an index such as streams.Add and streams.Drop make it: is each record of each document on the line that tells its path?
func made(x streams.Index) bool {
	if !guide.Sound(x.G) || len(x.Lines) != len(x.Docs) {
		return false
	}
	steps := map[int][]string{}
	for _, line := range x.G.L {
		steps[line.ID] = line.Steps
	}
	for i, d := range x.Docs {
		paths := guide.Paths(d.L) // none of records that are not sound
		if i > 0 && x.Docs[i-1].ID >= d.ID || len(paths) == 0 || len(x.Lines[i]) != len(paths) {
			return false
		}
		for k, id := range x.Lines[i] {
			line, ok := steps[id]
			if !ok || !slices.Equal(line, paths[k]) {
				return false
			}
		}
	}
	return true
}
