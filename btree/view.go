package btree

import (
	"bytes"
	"slices"

	"orangery/api"
	"orangery/pager"
)

const (
	trees     = 8
	sign1     = 79
	sign2     = 82
	headPage  = 0
	headBytes = 6 + 2*trees
)

// head is what page 0 tells.
type head struct {
	ever  int // pages that were ever used
	free  int // the first one that is free again, or 0
	roots [trees]int
}

// parseHead is what a page tells of so many; false: it is no page 0.
func parseHead(page []byte, pages int) (head, bool) {
	if bytes.Equal(page, make([]byte, len(page))) {
		return head{ever: 1}, true
	}
	if page[0] != sign1 || page[1] != sign2 {
		return head{}, false
	}
	r := reader{rest: page[2:]}
	h := head{ever: r.number(2), free: r.number(2)}
	for t := range h.roots {
		h.roots[t] = r.number(2)
	}
	return h, h.ever > 0 && h.ever <= pages
}

func (h head) bytes() []byte {
	b := make([]byte, 0, headBytes)
	b = append(b, sign1, sign2, byte(h.ever>>8), byte(h.ever), byte(h.free>>8), byte(h.free))
	for _, at := range h.roots {
		b = append(b, byte(at>>8), byte(at))
	}
	return b
}

// view reads what is on the pages, or, ahead of that, what a change keeps for them.
type view struct {
	head
	p    *pager.Pager
	kept map[int][]byte
}

func newView(p *pager.Pager) (*view, api.Errno) {
	page, e := p.Read(headPage)
	if e != api.OK {
		return nil, e
	}
	h, ok := parseHead(page, p.Pages())
	if !ok {
		return nil, api.ErrTorn
	}
	return &view{head: h, p: p}, api.OK
}

// page is one that was ever used, but for page 0.
func (v *view) page(at int) ([]byte, api.Errno) {
	if at <= headPage || at >= v.ever {
		return nil, api.ErrTorn
	}
	if b, ok := v.kept[at]; ok {
		page := make([]byte, api.PageSize)
		copy(page, b)
		return page, api.OK
	}
	return v.p.Read(at)
}

func (v *view) node(at int) (*node, api.Errno) {
	page, e := v.page(at)
	if e != api.OK {
		return nil, e
	}
	n, ok := parseNode(page)
	if !ok {
		return nil, api.ErrTorn
	}
	return n, api.OK
}

// nextFree is the free page that a free page tells.
func (v *view) nextFree(at int) (int, api.Errno) {
	page, e := v.page(at)
	if e != api.OK {
		return 0, e
	}
	return int(page[0])<<8 | int(page[1]), api.OK
}

// stop is a node on the way to a key, and the place there of the kid below which the key is, or of the key itself, or where it would be.
type stop struct {
	*node
	at, i int
}

// way goes from a root to the leaf where a key is, or would be; of an empty tree it has no stop.
func (v *view) way(root int, key []byte) ([]stop, bool, api.Errno) {
	var l []stop
	for at := root; at != 0; {
		// A way that is longer than there are pages goes in a ring.
		if len(l) >= v.ever {
			return nil, false, api.ErrTorn
		}
		n, e := v.node(at)
		if e != api.OK {
			return nil, false, e
		}
		i, found := slices.BinarySearchFunc(n.keys, key, bytes.Compare)
		if n.leaf {
			return append(l, stop{n, at, i}), found, api.OK
		}
		if found {
			i++
		}
		l = append(l, stop{n, at, i})
		if at = n.kids[i]; at == 0 {
			return nil, false, api.ErrTorn
		}
	}
	return nil, false, api.OK
}
