package db

import (
	"cmp"
	"maps"
	"math"
	"slices"

	"orangery/api"
	"orangery/catalog"
	"orangery/edits"
	"orangery/parse"
	"orangery/print"
	"orangery/shred"
	"orangery/token"
	"orangery/value"
)

const (
	mostName = 32
	mostID   = math.MaxUint32
	noID     = -1 // has no text: what is told of it tells of the collection alone
)

// draft is what a catalog would hold; things are done with it, and the catalog stays as it is.
type draft struct {
	c     *catalog.Cat
	colls map[string]*coll // those that were asked for
}

func newDraft(c *catalog.Cat) *draft { return &draft{c: c, colls: map[string]*coll{}} }

// coll is a collection: was it in the catalog, and is it now? Anew: what the catalog has of it is gone.
type coll struct {
	was, is, anew bool
	docs          map[int]doc // those that were asked for
}

// doc is a document: was it in the catalog, with a text so long, and is it now, with a text?
type doc struct {
	was, is, changed bool
	size             int
	text             string
}

// named is a collection of a name.
func (t *draft) named(name string) (*coll, api.Errno) {
	if l, ok := t.colls[name]; ok {
		return l, api.OK
	}
	_, _, e := t.c.Get(name, noID)
	if e != api.OK && e != api.ErrName {
		return nil, e
	}
	l := &coll{was: e == api.OK, is: e == api.OK, docs: map[int]doc{}}
	t.colls[name] = l
	return l, api.OK
}

// there is a collection that is there.
func (t *draft) there(name string) (*coll, api.Errno) {
	l, e := t.named(name)
	if e == api.OK && !l.is {
		return nil, api.ErrName
	}
	return l, e
}

// doc is a collection's document of an ID.
func (t *draft) doc(l *coll, name string, id int) (doc, api.Errno) {
	if d, ok := l.docs[id]; ok || l.anew {
		return d, api.OK
	}
	text, ok, e := t.c.Get(name, id)
	if e != api.OK && e != api.ErrName { // ErrName: the collection is new
		return doc{}, e
	}
	d := doc{was: ok, is: ok, size: len(text), text: text}
	l.docs[id] = d
	return d, api.OK
}

// do does one thing.
func (t *draft) do(op Op) api.Errno {
	switch op.What {
	case Make:
		return t.make(op)
	case Kill:
		return t.kill(op)
	case Put:
		return t.put(op)
	case Drop:
		return t.drop(op)
	case Set:
		return t.change(op, content.set)
	case Cut:
		return t.change(op, content.cut)
	case Lay:
		return t.change(op, content.lay)
	}
	return api.ErrArg
}

func (t *draft) make(op Op) api.Errno {
	if len(op.Coll) > mostName || !token.IsName(op.Coll) {
		return api.ErrArg
	}
	l, e := t.named(op.Coll)
	switch {
	case e != api.OK:
		return e
	case l.is:
		return api.ErrTwice
	}
	l.is = true
	return api.OK
}

func (t *draft) kill(op Op) api.Errno {
	l, e := t.there(op.Coll)
	if e != api.OK {
		return e
	}
	l.is, l.anew, l.docs = false, true, map[int]doc{}
	return api.OK
}

// held is a document that is there, and its collection.
func (t *draft) held(op Op) (*coll, doc, api.Errno) {
	l, e := t.there(op.Coll)
	if e != api.OK {
		return nil, doc{}, e
	}
	d, e := t.doc(l, op.Coll, op.ID)
	if e == api.OK && !d.is {
		e = api.ErrName
	}
	return l, d, e
}

func (t *draft) drop(op Op) api.Errno {
	l, d, e := t.held(op)
	if e != api.OK {
		return e
	}
	l.docs[op.ID] = doc{was: d.was, size: d.size}
	return api.OK
}

func (t *draft) put(op Op) api.Errno {
	l, e := t.there(op.Coll)
	if e != api.OK {
		return e
	}
	if op.ID < 0 || op.ID > mostID {
		return api.ErrArg
	}
	v, e, _ := parse.Value([]byte(op.Text))
	if e != api.OK {
		return e
	}
	d, e := t.doc(l, op.Coll, op.ID)
	if e != api.OK {
		return e
	}
	return l.lay(op.ID, d, v)
}

// change does something with a document that is there.
func (t *draft) change(op Op, done func(content, Op) (api.Val, api.Errno)) api.Errno {
	l, d, e := t.held(op)
	if e != api.OK {
		return e
	}
	if len(op.At) > api.MaxSteps {
		return api.ErrArg
	}
	v, e, _ := parse.Value([]byte(d.text))
	if e != api.OK {
		return api.ErrTorn
	}
	w, e := done(content{v}, op)
	if e != api.OK {
		return e
	}
	return l.lay(op.ID, d, w)
}

// lay gives a document a value.
func (l *coll) lay(id int, d doc, v api.Val) api.Errno {
	text, e := print.Value(v)
	if e != api.OK {
		return e
	}
	l.docs[id] = doc{was: d.was, is: true, changed: true, size: d.size, text: text}
	return api.OK
}

// content is what a document holds.
type content struct{ v api.Val }

func (c content) set(op Op) (api.Val, api.Errno) { return value.Put(c.v, op.At, op.V) }

func (c content) cut(op Op) (api.Val, api.Errno) { return value.Drop(c.v, op.At) }

func (c content) lay(op Op) (api.Val, api.Errno) {
	l, e := shred.Shred(c.v, gap)
	if e != api.OK {
		return api.Val{}, e
	}
	i := shred.Find(l, op.At)
	if i < 0 {
		return api.Val{}, api.ErrName
	}
	l, _, e = edits.Insert(l, i, op.K, op.Text, op.V)
	if e != api.OK {
		return api.Val{}, e
	}
	return shred.Build(l)
}

// ops is what makes a catalog as a draft is. What goes, or gets shorter, is ahead of what comes, and leaves it room.
func (t *draft) ops() []catalog.Op {
	var gone, made []catalog.Op
	var texts []longer
	for _, name := range slices.Sorted(maps.Keys(t.colls)) {
		l := t.colls[name]
		if l.was && l.anew {
			gone = append(gone, catalog.Op{What: catalog.Kill, Coll: name})
		}
		if l.is && (l.anew || !l.was) {
			made = append(made, catalog.Op{What: catalog.Make, Coll: name})
		}
		for _, id := range slices.Sorted(maps.Keys(l.docs)) {
			switch d := l.docs[id]; {
			case d.is && d.changed:
				texts = append(texts, longer{catalog.Op{What: catalog.Put, Coll: name, ID: id, Text: d.text}, len(d.text) - d.size})
			case d.was && !d.is:
				gone = append(gone, catalog.Op{What: catalog.Drop, Coll: name, ID: id})
			}
		}
	}
	slices.SortStableFunc(texts, func(a, b longer) int { return cmp.Compare(a.by, b.by) })
	l := append(gone, made...)
	for _, x := range texts {
		l = append(l, x.Op)
	}
	return l
}

// longer is a text that is put, and by how much it is longer than the one that was there.
type longer struct {
	catalog.Op
	by int
}
