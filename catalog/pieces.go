package catalog

import (
	"bytes"
	"math"
	"strings"

	"orangery/api"
	"orangery/btree"
	"orangery/keys"
)

const pieceSize = 64 // bytes of a text under one key

// key is a name's and numbers'.
func key(name string, numbers ...int) []byte {
	l := []keys.Part{{Kind: api.Str, S: name}}
	for _, n := range numbers {
		l = append(l, keys.Part{Kind: keys.Whole, I: n})
	}
	b, _ := keys.Encode(l)
	return b
}

// named is the name that a key tells alone.
func named(b []byte) (string, bool) {
	l, e := keys.Decode(b)
	if e != api.OK || len(l) != 1 || !isName(l[0].S) {
		return "", false
	}
	return l[0].S, true
}

// under are the entries of texts whose keys begin by one.
func (c *Cat) under(from []byte) ([]btree.Entry, api.Errno) {
	return c.s.Range(texts, from, keys.After(from), math.MaxInt)
}

// remove takes entries of texts away.
func (c *Cat) remove(l []btree.Entry) api.Errno {
	for _, x := range l {
		if _, e := c.s.Delete(texts, x.Key); e != api.OK {
			return e
		}
	}
	return api.OK
}

// cut is a text in pieces, one at least.
func cut(text string) [][]byte {
	var l [][]byte
	for len(text) > pieceSize {
		l = append(l, []byte(text[:pieceSize]))
		text = text[pieceSize:]
	}
	return append(l, []byte(text))
}

// joined is the text of pieces; ErrTorn, if one is not there, or not as long as it may be.
func joined(l []btree.Entry, coll string, id int) (string, api.Errno) {
	var text strings.Builder
	for i, x := range l {
		if !bytes.Equal(x.Key, key(coll, id, i)) || i < len(l)-1 && len(x.V) != pieceSize {
			return "", api.ErrTorn
		}
		text.Write(x.V)
	}
	return text.String(), api.OK
}

// ids are those of a collection, from one text's first piece to the next one's.
func (c *Cat) ids(coll string) ([]int, api.Errno) {
	var out []int
	from, to := key(coll), keys.After(key(coll))
	for {
		l, e := c.s.Range(texts, from, to, 1)
		switch {
		case e != api.OK:
			return nil, e
		case len(l) == 0:
			return out, api.OK
		}
		parts, e := keys.Decode(l[0].Key)
		if e != api.OK || len(parts) != 3 || parts[1].Kind != keys.Whole {
			return nil, api.ErrTorn
		}
		out = append(out, parts[1].I)
		from = keys.After(key(coll, parts[1].I))
	}
}
