package edits

import "orangery/shred"

// source gives one number after the other.
type source func() int

// rising gives the numbers above one, by a step.
func rising(from, by int) source {
	return func() int {
		from += by
		return from
	}
}

// numbering numbers records by what its source gives.
type numbering struct{ next source }

// number gives each record its Start, then what stands in it its numbers, then the record its End.
func (n numbering) number(l []shred.Rec) {
	var open []int
	for i := range l {
		open = n.end(l, open, l[i].Level)
		l[i].Start = n.next()
		open = append(open, i)
	}
	if len(l) > 0 {
		n.end(l, open, l[0].Level)
	}
}

// end gives those that are open and not above a level their Ends; the others stay open.
func (n numbering) end(l []shred.Rec, open []int, level int) []int {
	for len(open) > 0 && l[open[len(open)-1]].Level >= level {
		l[open[len(open)-1]].End = n.next()
		open = open[:len(open)-1]
	}
	return open
}

// spread numbers all records anew, widely.
func spread(l []shred.Rec) []shred.Rec {
	numbering{rising(0, wide)}.number(l)
	return l
}
