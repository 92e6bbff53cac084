package streams

import (
	"bytes"
	"cmp"
	"slices"

	"orangery/api"
	"orangery/keys"
	"orangery/shred"
)

// found is an item, its record, and the bytes of its value, if they were asked for.
type found struct {
	Item
	r   shred.Rec
	key []byte
}

// on are the items whose lines are asked for, in order.
func on(x Index, asked func(line int) bool) []found {
	var l []found
	for i, ids := range lines(x) {
		d := x.Docs[i]
		for at, id := range ids[:min(len(ids), len(d.L))] {
			if asked(id) {
				l = append(l, found{Item: item(d, at), r: d.L[at]})
			}
		}
	}
	slices.SortStableFunc(l, inOrder)
	return l
}

func inOrder(a, b found) int {
	return cmp.Or(cmp.Compare(a.Doc, b.Doc), cmp.Compare(a.Start, b.Start))
}

func byKey(a, b found) int { return bytes.Compare(a.key, b.key) }

// scalars are the items on a line whose values' bytes are no less than low, and below high.
func scalars(x Index, line int, low, high []byte) []found {
	var l []found
	for _, f := range on(x, func(id int) bool { return id == line }) {
		p, ok := keys.Scalar(api.Val{Kind: f.r.Kind, B: f.r.B, N: f.r.N, S: f.r.S})
		if !ok {
			continue
		}
		b, e := keys.Encode([]keys.Part{p})
		if e == api.OK && bytes.Compare(b, low) >= 0 && bytes.Compare(b, high) < 0 {
			f.key = b
			l = append(l, f)
		}
	}
	return l
}

func items(l []found) []Item {
	out := make([]Item, len(l))
	for i, f := range l {
		out[i] = f.Item
	}
	return out
}
