package btree

import (
	"slices"

	"orangery/api"
)

const (
	leafMark  = 1
	innerMark = 2
	mostValue = 64
)

// node is one. All keys at and below a kid are no less than the key ahead of it, and below the one behind it.
type node struct {
	leaf   bool
	keys   [][]byte
	values [][]byte // of a leaf, one for each key
	kids   []int    // of another one, one more than keys
}

// parseNode is the node that a page tells; false: it is none.
func parseNode(page []byte) (*node, bool) {
	r := reader{rest: page}
	mark := r.number(1)
	if mark != leafMark && mark != innerMark {
		return nil, false
	}
	n := &node{leaf: mark == leafMark}
	count := r.number(2)
	if !n.leaf {
		n.kids = append(n.kids, r.number(2))
	}
	for range count {
		if n.leaf {
			keySize, valueSize := r.number(1), r.number(1)
			r.short = r.short || valueSize > mostValue
			n.keys = append(n.keys, r.key(keySize))
			n.values = append(n.values, r.bytes(valueSize))
		} else {
			n.keys = append(n.keys, r.key(r.number(1)))
			n.kids = append(n.kids, r.number(2))
		}
		if r.short {
			return nil, false
		}
	}
	return n, n.leaf || count > 0
}

// reader takes bytes from a page; short, if there were not as many, or not as they may be.
type reader struct {
	rest  []byte
	short bool
}

func (r *reader) bytes(n int) []byte {
	if r.short || n > len(r.rest) {
		r.short = true
		return nil
	}
	b := r.rest[:n:n]
	r.rest = r.rest[n:]
	return b
}

func (r *reader) key(n int) []byte {
	b := r.bytes(n)
	r.short = r.short || !isKey(b)
	return b
}

// number is n bytes as a number, the high one first.
func (r *reader) number(n int) int {
	sum := 0
	for _, c := range r.bytes(n) {
		sum = sum<<8 | int(c)
	}
	return sum
}

// bytes are a node's on a page.
func (n *node) bytes() []byte {
	count := len(n.keys)
	if n.leaf {
		b := []byte{leafMark, byte(count >> 8), byte(count)}
		for i, key := range n.keys {
			b = append(b, byte(len(key)), byte(len(n.values[i])))
			b = append(b, key...)
			b = append(b, n.values[i]...)
		}
		return b
	}
	b := []byte{innerMark, byte(count >> 8), byte(count), byte(n.kids[0] >> 8), byte(n.kids[0])}
	for i, key := range n.keys {
		b = append(b, byte(len(key)))
		b = append(b, key...)
		b = append(b, byte(n.kids[i+1]>>8), byte(n.kids[i+1]))
	}
	return b
}

// size is how many bytes a node is.
func (n *node) size() int {
	size := 3
	if !n.leaf {
		size += 2
	}
	for i := range n.keys {
		size += n.entrySize(i)
	}
	return size
}

func (n *node) entrySize(i int) int {
	if n.leaf {
		return 2 + len(n.keys[i]) + len(n.values[i])
	}
	return 1 + len(n.keys[i]) + 2
}

func (n *node) fits() bool { return n.size() <= api.PageSize }

// cut is a node's beginning, the key that stands between (also the first one of the rest, in a leaf), and its rest.
func (n *node) cut(i int) (*node, []byte, *node) {
	if n.leaf {
		return &node{leaf: true, keys: slices.Clip(n.keys[:i]), values: slices.Clip(n.values[:i])}, n.keys[i],
			&node{leaf: true, keys: n.keys[i:], values: n.values[i:]}
	}
	return &node{keys: slices.Clip(n.keys[:i]), kids: slices.Clip(n.kids[:i+1])}, n.keys[i],
		&node{keys: n.keys[i+1:], kids: n.kids[i+1:]}
}

// joined is two nodes of one kind, with the key that stands between, as one.
func joined(left *node, key []byte, right *node) *node {
	if left.leaf {
		return &node{leaf: true, keys: slices.Concat(left.keys, right.keys), values: slices.Concat(left.values, right.values)}
	}
	return &node{keys: slices.Concat(left.keys, [][]byte{key}, right.keys), kids: slices.Concat(left.kids, right.kids)}
}

// cuts are the first and the last place where a node may be cut. Each side keeps one key at least; an inner node's key at the cut goes up.
func (n *node) cuts() (int, int) {
	if n.leaf {
		return 1, len(n.keys) - 1
	}
	return 1, len(n.keys) - 2
}

// split is a node that is too big in two; at is the place of what has come to it. What has come at an end is parted from the others: keys that come in order leave full nodes behind.
func (n *node) split(at int) (*node, []byte, *node) {
	first, last := n.cuts()
	switch at {
	case 0:
		return n.cut(first)
	case len(n.keys) - 1:
		return n.cut(last)
	}
	best := first
	for i := first; i <= last; i++ {
		if n.greater(i) < n.greater(best) {
			best = i
		}
	}
	return n.cut(best)
}

// greater is the size of the greater side of a cut.
func (n *node) greater(i int) int {
	left, _, right := n.cut(i)
	return max(left.size(), right.size())
}

// addKid lays a kid behind the i-th one, and a key between.
func (n *node) addKid(i int, key []byte, kid int) {
	n.keys = slices.Insert(n.keys, i, key)
	n.kids = slices.Insert(n.kids, i+1, kid)
}

// dropKid takes the i-th kid away, and the key ahead of it, of the first one the key behind it.
func (n *node) dropKid(i int) {
	n.kids = slices.Delete(n.kids, i, i+1)
	i = max(i-1, 0)
	n.keys = slices.Delete(n.keys, i, i+1)
}
