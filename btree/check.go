package btree

import (
	"bytes"

	"orangery/api"
)

// Check: is a tree sound?
func (s *Store) Check(t int) api.Errno {
	if !isTree(t) {
		return api.ErrArg
	}
	v, e := s.view()
	if e != api.OK {
		return e
	}
	if v.roots[t] == 0 {
		return api.OK
	}
	c := checker{view: v, seen: map[int]int{}}
	return c.check(v.roots[t], 0, nil, nil)
}

// checker goes through a tree; it remembers the pages, and how deep the first leaf was.
type checker struct {
	*view
	seen   map[int]int
	leaves int
}

// check asks the node of a page, so deep, whose keys are to be no less than from, and below to (nil: any).
func (c *checker) check(at, depth int, from, to []byte) api.Errno {
	if _, twice := c.seen[at]; twice {
		return api.ErrTorn
	}
	c.seen[at] = depth
	n, e := c.node(at)
	if e != api.OK {
		return e
	}
	if !inOrder(n.keys, from, to) || len(n.keys) == 0 && depth > 0 {
		return api.ErrTorn
	}
	if n.leaf {
		if c.leaves == 0 {
			c.leaves = depth + 1
		}
		if c.leaves != depth+1 {
			return api.ErrTorn
		}
		return api.OK
	}
	for i, kid := range n.kids {
		low, high := from, to
		if i > 0 {
			low = n.keys[i-1]
		}
		if i < len(n.keys) {
			high = n.keys[i]
		}
		if e := c.check(kid, depth+1, low, high); e != api.OK {
			return e
		}
	}
	return api.OK
}

func inOrder(keys [][]byte, from, to []byte) bool {
	for i, key := range keys {
		if i > 0 && bytes.Compare(keys[i-1], key) >= 0 {
			return false
		}
		if bytes.Compare(key, from) < 0 || to != nil && bytes.Compare(key, to) >= 0 {
			return false
		}
	}
	return true
}
