package btree

import (
	"bytes"
	"maps"
	"slices"

	"orangery/api"
)

// change is what is done with a tree; it is kept until it is whole, and laid down only then.
type change struct {
	view
	t      int
	before head
}

func (s *Store) change(t int) (*change, api.Errno) {
	v, e := s.view()
	if e != api.OK {
		return nil, e
	}
	c := &change{view: *v, t: t, before: v.head}
	c.kept = map[int][]byte{}
	return c, api.OK
}

// lay writes what is kept.
func (c *change) lay() api.Errno {
	if c.head != c.before {
		c.kept[headPage] = c.head.bytes()
	}
	for _, at := range slices.Sorted(maps.Keys(c.kept)) {
		if e := c.p.Write(at, c.kept[at]); e != api.OK {
			return e
		}
	}
	return api.OK
}

func (c *change) keep(at int, n *node) { c.kept[at] = n.bytes() }

// take is a page that is free, from now on used.
func (c *change) take() (int, api.Errno) {
	if at := c.free; at != 0 {
		next, e := c.nextFree(at)
		if e != api.OK {
			return 0, e
		}
		c.free = next
		return at, api.OK
	}
	if c.ever >= c.p.Pages() {
		return 0, api.ErrFull
	}
	c.ever++
	return c.ever - 1, api.OK
}

// give lets a page be free again.
func (c *change) give(at int) {
	c.kept[at] = []byte{byte(c.free >> 8), byte(c.free)}
	c.free = at
}

func (c *change) put(key, v []byte) api.Errno {
	way, found, e := c.way(c.roots[c.t], key)
	if e != api.OK {
		return e
	}
	if len(way) == 0 {
		return c.plant(&node{leaf: true, keys: [][]byte{key}, values: [][]byte{v}})
	}
	last := way[len(way)-1]
	switch {
	case found && bytes.Equal(last.values[last.i], v):
		return api.OK
	case found && len(v) < len(last.values[last.i]):
		last.values[last.i] = v
		return c.shrink(way)
	case found:
		last.values[last.i] = v
	default:
		last.keys = slices.Insert(last.keys, last.i, key)
		last.values = slices.Insert(last.values, last.i, v)
	}
	return c.grow(way, last.i)
}

// plant makes a node the tree's root.
func (c *change) plant(n *node) api.Errno {
	at, e := c.take()
	if e != api.OK {
		return e
	}
	c.keep(at, n)
	c.roots[c.t] = at
	return api.OK
}

// grow keeps the last node of a way, to which something has come at a place. One that is too big is divided anew with its neighbour, where that has room; else it is split, and one more comes to the node above it.
func (c *change) grow(way []stop, place int) api.Errno {
	for {
		last := way[len(way)-1]
		if last.fits() {
			c.keep(last.at, last.node)
			return api.OK
		}
		way = way[:len(way)-1]
		if len(way) > 0 {
			up := way[len(way)-1]
			d, e := c.division(up, last)
			if e != api.OK {
				return e
			}
			if d != nil && !d.over {
				c.divide(up, d)
				place = d.place
				continue
			}
		}
		at, e := c.take()
		if e != api.OK {
			return e
		}
		left, key, right := last.split(place)
		c.keep(last.at, left)
		c.keep(at, right)
		if len(way) == 0 {
			return c.plant(&node{keys: [][]byte{key}, kids: []int{last.at, at}})
		}
		up := way[len(way)-1]
		place = up.i
		up.addKid(place, key, at)
	}
}

func (c *change) remove(key []byte) (bool, api.Errno) {
	way, found, e := c.way(c.roots[c.t], key)
	if e != api.OK || !found {
		return false, e
	}
	last := way[len(way)-1]
	last.keys = slices.Delete(last.keys, last.i, last.i+1)
	last.values = slices.Delete(last.values, last.i, last.i+1)
	return true, c.shrink(way)
}

// shrink keeps the last node of a way, from which something has gone. Where it can, it becomes one with its neighbour, and one less is below the node above it.
func (c *change) shrink(way []stop) api.Errno {
	for ; len(way) > 1; way = way[:len(way)-1] {
		last, up := way[len(way)-1], way[len(way)-2]
		gone, e := c.merge(up, last)
		if e != api.OK {
			return e
		}
		if gone {
			continue
		}
		if !last.leaf && len(last.keys) == 0 {
			return c.refill(way)
		}
		c.keep(last.at, last.node)
		return api.OK
	}
	root := way[0]
	switch {
	case len(root.keys) > 0:
		c.keep(root.at, root.node)
		return api.OK
	case root.leaf:
		c.roots[c.t] = 0
	default:
		c.roots[c.t] = root.kids[0]
	}
	c.give(root.at)
	return api.OK
}

// merge lays a node and one beside it on one page, if they have room there. The other page, and the kid above, are gone then.
func (c *change) merge(up, last stop) (bool, api.Errno) {
	if last.leaf && len(last.keys) == 0 {
		c.give(last.at)
		up.dropKid(up.i)
		return true, api.OK
	}
	for _, i := range beside(up) {
		left, right, e := c.pair(up, i, last)
		if e != api.OK {
			return false, e
		}
		if n := joined(left, up.keys[i], right); n.fits() {
			c.keep(up.kids[i], n)
			c.give(up.kids[i+1])
			up.dropKid(i + 1)
			return true, api.OK
		}
	}
	return false, api.OK
}

// beside are the places of the keys on both sides of the kid that the way takes.
func beside(up stop) []int {
	l := make([]int, 0, 2)
	for i := up.i - 1; i <= up.i; i++ {
		if i >= 0 && i < len(up.keys) {
			l = append(l, i)
		}
	}
	return l
}

// pair are the kids on both sides of a key, one of them the last on the way.
func (c *change) pair(up stop, i int, last stop) (*node, *node, api.Errno) {
	other := i
	if i == up.i {
		other = i + 1
	}
	n, e := c.node(up.kids[other])
	switch {
	case e != api.OK:
		return nil, nil, e
	case n.leaf != last.leaf || up.kids[other] == last.at:
		return nil, nil, api.ErrTorn
	case other > i:
		return last.node, n, api.OK
	}
	return n, last.node, api.OK
}

// division is how two nodes may be divided anew: the place above of the key between, and where they are cut, taken as one.
type division struct {
	place, cut int
	all        *node
	over       bool // the node above becomes too big
	size       int  // of the greater one
}

func (d *division) better(than *division) bool {
	if d.over != than.over {
		return !d.over
	}
	return d.size < than.size
}

// division is the best one of the last node on a way and one beside it; nil, if two pages have no room for them.
func (c *change) division(up, last stop) (*division, api.Errno) {
	var best *division
	for _, i := range beside(up) {
		left, right, e := c.pair(up, i, last)
		if e != api.OK {
			return nil, e
		}
		all := joined(left, up.keys[i], right)
		room := api.PageSize - up.size() + len(up.keys[i])
		first, end := all.cuts()
		for k := first; k <= end; k++ {
			d := &division{place: i, cut: k, all: all, over: len(all.keys[k]) > room, size: all.greater(k)}
			if d.size <= api.PageSize && (best == nil || d.better(best)) {
				best = d
			}
		}
	}
	return best, api.OK
}

// divide keeps two nodes as they are divided anew; the key above changes, and may be longer.
func (c *change) divide(up stop, d *division) {
	left, key, right := d.all.cut(d.cut)
	c.keep(up.kids[d.place], left)
	c.keep(up.kids[d.place+1], right)
	up.keys[d.place] = key
}

// refill takes keys for the last node of a way, which has none any more, from one beside it.
func (c *change) refill(way []stop) api.Errno {
	last, up := way[len(way)-1], way[len(way)-2]
	d, e := c.division(up, last)
	switch {
	case e != api.OK:
		return e
	case d == nil:
		return api.ErrTorn
	}
	c.divide(up, d)
	return c.grow(way[:len(way)-1], d.place)
}
