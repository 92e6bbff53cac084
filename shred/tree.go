package shred

import (
	"orangery/api"
	"orangery/value"
)

// tree is a list of records, with what stands in what.
type tree struct {
	l     []Rec
	above []int
	kids  [][]int
}

// readAt is the tree of records that are sound, if i is a place in them.
func readAt(l []Rec, i int) (tree, bool) {
	if i < 0 || i >= len(l) {
		return tree{}, false
	}
	return read(l)
}

// read is the tree of records; false: they are not sound.
func read(l []Rec) (tree, bool) {
	// No value that may be has more values than MaxParts.
	if len(l) == 0 || len(l) > api.MaxParts {
		return tree{}, false
	}
	t := tree{l: l}
	if !t.nest() || !t.named() || !t.rising() || value.Sane(t.value(0)) != api.OK {
		return tree{}, false
	}
	return t, true
}

// nest finds what stands in what; false: the levels are not such.
func (t *tree) nest() bool {
	t.above, t.kids = make([]int, len(t.l)), make([][]int, len(t.l))
	var open []int // the places of those that the next one may stand in
records:
	for i, r := range t.l {
		for len(open) > 0 {
			top := open[len(open)-1]
			if t.l[top].Level == r.Level-1 {
				t.above[i] = top
				t.kids[top] = append(t.kids[top], i)
				open = append(open, i)
				continue records
			}
			open = open[:len(open)-1]
		}
		if i > 0 || r.Level != 0 {
			return false
		}
		t.above[i] = none
		open = append(open, i)
	}
	return true
}

// named: has just what stands in an Obj a name, and what stands in another record none, and does nothing stand in any but these?
func (t *tree) named() bool {
	for i, r := range t.l {
		kind := api.Arr // the first record has no name, as if it stood in one
		if t.above[i] != none {
			kind = t.l[t.above[i]].Kind
		}
		switch {
		case kind == api.Obj && r.Named:
		case kind == api.Arr && !r.Named && r.Name == "":
		default:
			return false
		}
	}
	return true
}

// rising: do the numbers rise, as they are given?
func (t *tree) rising() bool {
	last := -1
	above := func(n int) bool {
		ok := n > last && n <= greatest
		last = n
		return ok
	}
	var open []int
	for i, r := range t.l {
		for len(open) > 0 && open[len(open)-1] != t.above[i] {
			if !above(t.l[open[len(open)-1]].End) {
				return false
			}
			open = open[:len(open)-1]
		}
		if !above(r.Start) {
			return false
		}
		open = append(open, i)
	}
	for k := len(open) - 1; k >= 0; k-- {
		if !above(t.l[open[k]].End) {
			return false
		}
	}
	return true
}

// value is a record's, with what stands in it.
func (t *tree) value(i int) api.Val {
	r := t.l[i]
	v := api.Val{Kind: r.Kind, B: r.B, N: r.N, S: r.S}
	for _, k := range t.kids[i] {
		if r.Kind == api.Obj {
			v.M = append(v.M, api.Member{Key: t.l[k].Name, V: t.value(k)})
		} else {
			v.L = append(v.L, t.value(k))
		}
	}
	return v
}

// place is where a kid stands among those of the record above it.
func (t *tree) place(i int) int {
	for n, k := range t.kids[t.above[i]] {
		if k == i {
			return n
		}
	}
	return none
}

// step is the last one to a record that stands in another one.
func (t *tree) step(i int) api.Step {
	if t.l[i].Named {
		return api.Step{Named: true, Name: t.l[i].Name}
	}
	return api.Step{At: t.place(i)}
}

// kid is the place of what stands in a record at a step.
func (t *tree) kid(i int, s api.Step) int {
	kids := t.kids[i]
	if !s.Named {
		if t.l[i].Kind != api.Arr || s.At < 0 || s.At >= len(kids) {
			return none
		}
		return kids[s.At]
	}
	for _, k := range kids {
		if t.l[k].Named && t.l[k].Name == s.Name {
			return k
		}
	}
	return none
}
