package catalog_test

import (
	"bytes"
	"maps"
	"math"
	"math/rand"
	"slices"
	"strings"
	"testing"

	"orangery/api"
	"orangery/btree"
	"orangery/catalog"
	"orangery/disk"
	"orangery/keys"
	"orangery/pager"
)

func must(t *testing.T, e api.Errno) {
	t.Helper()
	if e != api.OK {
		t.Fatal(e)
	}
}

func newDisk(t *testing.T, n int) *disk.Disk {
	t.Helper()
	d, e := disk.New(n)
	must(t, e)
	return d
}

func open(t *testing.T, d *disk.Disk, pages, log int) (*catalog.Cat, *pager.Pager) {
	t.Helper()
	p, e := pager.Open(d, pages, log)
	must(t, e)
	c, e := catalog.Open(p)
	if e != api.OK || c == nil {
		t.Fatal(e)
	}
	return c, p
}

func made(coll string) catalog.Op { return catalog.Op{What: catalog.Make, Coll: coll} }
func kill(coll string) catalog.Op { return catalog.Op{What: catalog.Kill, Coll: coll} }
func put(coll string, id int, text string) catalog.Op {
	return catalog.Op{What: catalog.Put, Coll: coll, ID: id, Text: text}
}
func drop(coll string, id int) catalog.Op {
	return catalog.Op{What: catalog.Drop, Coll: coll, ID: id}
}

// model is what a catalog holds.
type model map[string]map[int]string

func (m model) clone() model {
	out := model{}
	for name, l := range m {
		out[name] = maps.Clone(l)
	}
	return out
}

// do is Do on a copy.
func (m model) do(l []catalog.Op) (model, api.Errno) {
	m = m.clone()
	for _, op := range l {
		texts, ok := m[op.Coll]
		switch op.What {
		case catalog.Make:
			good := op.Coll != "" && len(op.Coll) <= 32 && strings.Trim(op.Coll, "abcdefghijklmnopqrstuvwxyz") == ""
			switch {
			case !good:
				return nil, api.ErrArg
			case ok:
				return nil, api.ErrTwice
			}
			m[op.Coll] = map[int]string{}
		case catalog.Kill:
			if !ok {
				return nil, api.ErrName
			}
			delete(m, op.Coll)
		case catalog.Put:
			switch {
			case !ok:
				return nil, api.ErrName
			case op.ID < 0 || op.ID > math.MaxUint32:
				return nil, api.ErrArg
			case len(op.Text) > 65536:
				return nil, api.ErrLimit
			}
			texts[op.ID] = op.Text
		case catalog.Drop:
			if _, there := texts[op.ID]; !there {
				return nil, api.ErrName
			}
			delete(texts, op.ID)
		default:
			return nil, api.ErrArg
		}
	}
	return m, api.OK
}

// is: does a catalog hold just this?
func (m model) is(c *catalog.Cat) bool {
	names, e := c.Colls()
	if e != api.OK || !slices.Equal(names, slices.Sorted(maps.Keys(m))) {
		return false
	}
	for name, texts := range m {
		ids, e := c.IDs(name)
		if e != api.OK || !slices.Equal(ids, slices.Sorted(maps.Keys(texts))) {
			return false
		}
		for id, text := range texts {
			if got, ok, e := c.Get(name, id); got != text || !ok || e != api.OK {
				return false
			}
		}
		if _, ok, e := c.Get(name, 77); ok != (len(texts[77]) > 0) || e != api.OK {
			return false
		}
	}
	return true
}

// P23.1: Open.
func TestOpen(t *testing.T) {
	for _, p := range []*pager.Pager{nil, {}} {
		if c, e := catalog.Open(p); c != nil || e != api.ErrCrash {
			t.Error(e)
		}
	}
	p, _ := pager.Open(newDisk(t, 100), 4, 60)
	must(t, p.Write(0, []byte{1}))
	if c, e := catalog.Open(p); c != nil || e != api.ErrTorn {
		t.Error(e)
	}
}

// P23.2: Do, thing by thing.
func TestDo(t *testing.T) {
	c, p := open(t, newDisk(t, 3000), 100, 2000)
	long := strings.Repeat("n", 32)
	now := model{}
	for i, x := range []struct {
		l []catalog.Op
		e api.Errno
	}{
		{nil, 0}, {[]catalog.Op{made("a"), put("a", 1, "x")}, 0}, {[]catalog.Op{put("a", 2, "y"), drop("a", 9)}, 6}, {[]catalog.Op{made("a")}, 7}, {[]catalog.Op{made("")}, 1}, {[]catalog.Op{made("1")}, 1}, {[]catalog.Op{made("a b")}, 1}, {[]catalog.Op{made("\xff")}, 1}, {[]catalog.Op{made(long + "n")}, 1}, {[]catalog.Op{made(strings.Repeat("n", 1000))}, 1}, {[]catalog.Op{made(long)}, 0},
		{[]catalog.Op{kill("b")}, 6}, {[]catalog.Op{kill("")}, 6}, {[]catalog.Op{kill(strings.Repeat("n", 1000))}, 6}, {[]catalog.Op{put("b", 1, "")}, 6}, {[]catalog.Op{put("", -1, strings.Repeat("x", 70000))}, 6}, {[]catalog.Op{put("a", -1, strings.Repeat("x", 70000))}, 1}, {[]catalog.Op{put("a", 1<<32, "")}, 1}, {[]catalog.Op{put("a", math.MinInt, "")}, 1}, {[]catalog.Op{put("a", 3, strings.Repeat("x", 65537))}, 4}, {[]catalog.Op{put("a", 1<<32-1, "last"), put("a", 0, "")}, 0},
		{[]catalog.Op{drop("b", 1)}, 6}, {[]catalog.Op{drop("a", 5)}, 6}, {[]catalog.Op{drop("a", -1)}, 6}, {[]catalog.Op{drop("a", math.MaxInt)}, 6}, {[]catalog.Op{{What: 0, Coll: "a"}}, 1}, {[]catalog.Op{{What: 5, Coll: "a"}}, 1}, {[]catalog.Op{{What: -1}}, 1}, {[]catalog.Op{kill("a"), {What: 9}}, 1},
		{[]catalog.Op{kill("a"), put("a", 1, "z")}, 6}, {[]catalog.Op{kill("a"), made("a"), made("b"), put("b", 7, strings.Repeat("0123456789", 30)), put("b", 7, strings.Repeat("9", 64))}, 0}, {[]catalog.Op{put("b", 7, strings.Repeat("9", 128)), put("b", 8, strings.Repeat("8", 129)), put("a", 7, "\x00\xff")}, 0}, {[]catalog.Op{drop("b", 7), drop("b", 7)}, 6}, {[]catalog.Op{drop("b", 7), put("b", 7, "")}, 0}, {[]catalog.Op{kill("a"), kill("b"), kill(long)}, 0},
	} {
		next, want := now.do(x.l)
		if want == api.OK {
			now = next
		}
		if e := c.Do(x.l); e != x.e || e != want || !now.is(c) || p.Dirty() != 0 {
			t.Errorf("%d: %v, %v", i, e, want)
		}
	}
	if c.Used() != 1 {
		t.Error(c.Used())
	}
}

func TestTheDocumentsKeys(t *testing.T) {
	d := newDisk(t, 3000)
	c, p := open(t, d, 100, 2000)
	text := strings.Repeat("a", 64) + strings.Repeat("b", 64) + "c"
	must(t, c.Do([]catalog.Op{made("coll"), put("coll", 5, text), put("coll", 6, "")}))
	s, e := btree.Open(p)
	must(t, e)
	key := func(l ...keys.Part) []byte {
		b, _ := keys.Encode(l)
		return b
	}
	name := keys.Part{Kind: api.Str, S: "coll"}
	whole := func(i int) keys.Part { return keys.Part{Kind: keys.Whole, I: i} }
	want := []btree.Entry{{Key: key(name, whole(5), whole(0)), V: []byte(text[:64])}, {Key: key(name, whole(5), whole(1)), V: []byte(text[64:128])}, {Key: key(name, whole(5), whole(2)), V: []byte("c")}, {Key: key(name, whole(6), whole(0))}}
	same := func(a, b btree.Entry) bool { return bytes.Equal(a.Key, b.Key) && bytes.Equal(a.V, b.V) }
	if l, e := s.Range(0, nil, nil, 100); e != api.OK || !slices.EqualFunc(l, want, same) {
		t.Errorf("%q %v", l, e)
	}
	if l, e := s.Range(1, nil, nil, 100); e != api.OK || !slices.EqualFunc(l, []btree.Entry{{Key: key(name)}}, same) {
		t.Errorf("%q %v", l, e)
	}
	if c.Used() != s.Used() {
		t.Error(c.Used())
	}
}

// P23.3: Get, IDs, Colls.
func TestGet(t *testing.T) {
	c, _ := open(t, newDisk(t, 6000), 400, 2500)
	must(t, c.Do([]catalog.Op{made("b"), made("a"), made("ab"), made("\u00e9"), put("a", 300, "x"), put("a", 2, ""), put("a", 1<<32-1, "z"), put("ab", 2, "other"), put("a", 0, strings.Repeat("y", 65536))}))
	for i, x := range []struct {
		coll string
		id   int
		text string
		ok   bool
		e    api.Errno
	}{{"a", 300, "x", true, 0}, {"a", 2, "", true, 0}, {"a", 1<<32 - 1, "z", true, 0}, {"a", 0, strings.Repeat("y", 65536), true, 0}, {"ab", 2, "other", true, 0}, {"a", 1, "", false, 0}, {"a", -1, "", false, 0}, {"a", 1 << 32, "", false, 0}, {"a", math.MinInt, "", false, 0}, {"b", 2, "", false, 0}, {"c", 2, "", false, 6}, {"", 2, "", false, 6}, {"\xff", 2, "", false, 6}, {strings.Repeat("a", 500), 2, "", false, 6}} {
		if text, ok, e := c.Get(x.coll, x.id); text != x.text || ok != x.ok || e != x.e {
			t.Errorf("%d: %.10q %v %v", i, text, ok, e)
		}
	}
	for coll, want := range map[string][]int{"a": {0, 2, 300, 1<<32 - 1}, "ab": {2}, "b": nil} {
		if l, e := c.IDs(coll); !slices.Equal(l, want) || e != api.OK {
			t.Errorf("%s: %v %v", coll, l, e)
		}
	}
	for _, coll := range []string{"", "c", "a b", strings.Repeat("a", 500)} {
		if l, e := c.IDs(coll); l != nil || e != api.ErrName {
			t.Errorf("%s: %v %v", coll, l, e)
		}
	}
	if l, e := c.Colls(); !slices.Equal(l, []string{"a", "ab", "b", "\u00e9"}) || e != api.OK {
		t.Errorf("%q %v", l, e)
	}
}

// What lies in the trees and is not of the document's keys is torn.
func TestTornKeys(t *testing.T) {
	key := func(l ...keys.Part) []byte {
		b, _ := keys.Encode(l)
		return b
	}
	name := keys.Part{Kind: api.Str, S: "a"}
	whole := func(i int) keys.Part { return keys.Part{Kind: keys.Whole, I: i} }
	for i, x := range []struct {
		tree            int
		key, v          []byte
		get, ids, colls api.Errno
	}{
		{0, key(name, whole(1), whole(2)), nil, 11, 0, 0}, {0, key(name, whole(1), whole(0)), []byte("short"), 11, 0, 0}, {0, key(name, whole(3)), nil, 0, 11, 0}, {0, key(name, name, whole(0)), nil, 0, 11, 0}, {0, append(key(name), 7), nil, 0, 11, 0},
		{1, []byte("x"), nil, 0, 0, 11}, {1, key(name, name), nil, 0, 0, 11}, {1, key(keys.Part{Kind: api.Str, S: "1"}), nil, 0, 0, 11}, {1, key(keys.Part{}), nil, 0, 0, 11},
	} {
		c, p := open(t, newDisk(t, 1000), 60, 500)
		must(t, c.Do([]catalog.Op{made("a"), put("a", 1, strings.Repeat("x", 65))}))
		s, e := btree.Open(p)
		must(t, e)
		if i == 0 {
			_, e = s.Delete(0, key(name, whole(1), whole(0)))
			must(t, e)
		}
		must(t, s.Put(x.tree, x.key, x.v))
		if text, ok, e := c.Get("a", 1); e != x.get || ok != (e == api.OK) || e != api.OK && text != "" {
			t.Error(i, text, ok, e)
		}
		if l, e := c.IDs("a"); e != x.ids || e != api.OK && l != nil {
			t.Error(i, l, e)
		}
		if l, e := c.Colls(); e != x.colls || e != api.OK && l != nil {
			t.Error(i, l, e)
		}
	}
}

// P23.4: what Open did not make, and a disk that is gone.
func TestNone(t *testing.T) {
	d := newDisk(t, 1000)
	broken, _ := open(t, d, 40, 500)
	d.Limit(0)
	if e := broken.Do([]catalog.Op{made("a")}); e != api.ErrCrash {
		t.Error(e)
	}
	d.Reopen(nil)
	for _, c := range []*catalog.Cat{nil, {}, broken} {
		if e := c.Do([]catalog.Op{made("a")}); e != api.ErrCrash {
			t.Error(e)
		}
		if c != broken {
			if e := c.Do([]catalog.Op{{What: 99}}); e != api.ErrCrash {
				t.Error(e)
			}
		}
		if e := c.Do(nil); e != api.ErrCrash {
			t.Error(e)
		}
		if text, ok, e := c.Get("a", 1); text != "" || ok || e != api.ErrCrash {
			t.Error(e)
		}
		if l, e := c.IDs("a"); l != nil || e != api.ErrCrash {
			t.Error(e)
		}
		if l, e := c.Colls(); l != nil || e != api.ErrCrash {
			t.Error(e)
		}
		if c.Used() != 0 {
			t.Error(c.Used())
		}
	}
}

// P23.2: ErrFull, of pages and of the journal, changes nothing.
func TestFull(t *testing.T) {
	for _, x := range []struct{ pages, log int }{{12, 500}, {100, 80}} {
		d := newDisk(t, 8*x.pages+x.log)
		c, p := open(t, d, x.pages, x.log)
		now := model{"a": {}}
		must(t, c.Do([]catalog.Op{made("a")}))
		full := 0
		for i := range 30 {
			op := put("a", i, strings.Repeat(string(rune('a'+i%26)), 70*i))
			if e := c.Do([]catalog.Op{put("a", 1, "first"), op}); e == api.ErrFull {
				full++
			} else {
				must(t, e)
				now["a"][1], now["a"][i] = "first", op.Text
			}
			if !now.is(c) || p.Dirty() != 0 {
				t.Fatal(i)
			}
		}
		if full == 0 || full == 30 {
			t.Error(full)
		}
	}
}

// P23.2: there is room to Kill all collections that one Do has laid.
func TestRoomToKill(t *testing.T) {
	laid := 0
	for seed := range 120 {
		r := rand.New(rand.NewSource(int64(seed)))
		d := newDisk(t, 1000)
		c, _ := open(t, d, 60, 400)
		names := []string{strings.Repeat("a", 1+r.Intn(32)), "b" + strings.Repeat("z", r.Intn(32))}
		ops := []catalog.Op{made(names[0]), made(names[1])}
		// Up to as much as one Do can lay.
		for _, name := range names {
			for id := range r.Intn(21) {
				ops = append(ops, put(name, id*r.Intn(1000), strings.Repeat("x", r.Intn(501))))
			}
		}
		if seed%2 == 0 {
			r.Shuffle(len(ops)-2, func(i, k int) { ops[i+2], ops[k+2] = ops[k+2], ops[i+2] })
		}
		e := c.Do(ops)
		for e == api.ErrFull {
			ops = ops[:len(ops)-1]
			e = c.Do(ops)
		}
		must(t, e)
		laid = max(laid, c.Used())
		if seed%3 == 0 {
			must(t, c.Do([]catalog.Op{kill(names[seed%2]), kill(names[1-seed%2])}))
		} else {
			must(t, c.Do([]catalog.Op{kill(names[1])}))
			must(t, c.Do([]catalog.Op{kill(names[0])}))
		}
		if l, e := c.Colls(); len(l) != 0 || e != api.OK || c.Used() != 1 {
			t.Fatal(l, e, c.Used())
		}
	}
	if laid < 36 {
		t.Error(laid)
	}
}

// P23.2: there is room to Put texts for one ID one behind the other.
func TestRoomToPut(t *testing.T) {
	for seed := range 20 {
		r := rand.New(rand.NewSource(int64(seed)))
		d := newDisk(t, 1000)
		c, _ := open(t, d, 60, 400)
		name := strings.Repeat("n", []int{1, 5, 32}[seed%3])
		must(t, c.Do([]catalog.Op{made(name), put(name, 5*(seed%2), "small"[:r.Intn(6)])}))
		for range 60 {
			text := make([]byte, []int{2400, r.Intn(2401), r.Intn(100), 0, 2399}[r.Intn(5)])
			r.Read(text)
			must(t, c.Do([]catalog.Op{put(name, 3, string(text))}))
			if got, ok, e := c.Get(name, 3); got != string(text) || !ok || e != api.OK {
				t.Fatal(ok, e)
			}
		}
	}
}

// P23.5, W1: behind any crash all is as the last Do that was OK left it, or as the one would have that was being done.
func TestCrashes(t *testing.T) {
	r := rand.New(rand.NewSource(1))
	names := []string{"a", "b", "cc"}
	some := func() []catalog.Op {
		var l []catalog.Op
		for range 1 + r.Intn(4) {
			name := names[r.Intn(3)]
			switch r.Intn(6) {
			case 0:
				l = append(l, made(name))
			case 1:
				l = append(l, drop(name, r.Intn(4)))
			case 2:
				if r.Intn(3) == 0 {
					l = append(l, kill(name))
				}
			default:
				l = append(l, put(name, r.Intn(4), strings.Repeat(string(rune('a'+r.Intn(26))), r.Intn(300))))
			}
		}
		return l
	}
	ends := [3]int{}
	for range 400 {
		d := newDisk(t, 200+8*30)
		now := model{}
		for range 6 {
			c, p := open(t, d, 30, 200)
			if !now.is(c) {
				t.Fatal("opened again")
			}
			d.Limit(r.Intn(250))
			var next model
			for {
				l := some()
				var want api.Errno
				next, want = now.do(l)
				e := c.Do(l)
				if e == api.ErrCrash {
					break
				}
				if e != want {
					t.Fatal(e, want)
				}
				if e == api.OK {
					now = next
				} else if !now.is(c) {
					t.Fatal("an error changes nothing", e)
				}
				if r.Intn(9) == 0 && p.Checkpoint() != api.OK {
					next = nil
					break
				}
			}
			keep := make([]bool, d.Pending())
			all := r.Intn(2) == 0
			for i := range keep {
				keep[i] = all || r.Intn(3) > 0
			}
			d.Reopen(keep)
			c, _ = open(t, d, 30, 200)
			switch {
			case now.is(c):
				ends[0]++
			case next != nil && next.is(c):
				ends[1]++
				now = next
			default:
				t.Fatal("neither as it was, nor as it would be")
			}
		}
	}
	if ends[0] < 100 || ends[1] < 10 {
		t.Error(ends)
	}
}

// W3: pages of any kind are answered.
func TestAnyPages(t *testing.T) {
	for seed := range 600 {
		r := rand.New(rand.NewSource(int64(seed)))
		c, p := open(t, newDisk(t, 1000), 30, 600)
		must(t, c.Do([]catalog.Op{made("a"), made("b"), put("a", 1, strings.Repeat("x", 300)), put("a", 2, "y"), put("b", 1, strings.Repeat("z", 700))}))
		for range 1 + r.Intn(3) {
			at := r.Intn(12)
			b, _ := p.Read(at)
			b[r.Intn(40)] = byte(r.Intn(256))
			must(t, p.Write(at, b))
		}
		must(t, p.Commit())
		c, e := catalog.Open(p)
		if e != api.OK {
			continue
		}
		for _, name := range []string{"a", "b"} {
			c.IDs(name)
			for id := range 3 {
				c.Get(name, id)
			}
			c.Do([]catalog.Op{put(name, 1, strings.Repeat("q", r.Intn(600)))})
			c.Do([]catalog.Op{drop(name, 1)})
			c.Do([]catalog.Op{kill(name), made(name)})
		}
		c.Colls()
		c.Used()
	}
}

// The things are told by these numbers.
func TestKinds(t *testing.T) {
	if [4]int{catalog.Make, catalog.Kill, catalog.Put, catalog.Drop} != [4]int{1, 2, 3, 4} {
		t.Error("kinds")
	}
}
