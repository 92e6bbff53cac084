package btree_test

import (
	"bytes"
	"math"
	"math/rand"
	"slices"
	"strings"
	"testing"

	"orangery/api"
	"orangery/btree"
	"orangery/disk"
	"orangery/pager"
)

func must(t *testing.T, e api.Errno) {
	t.Helper()
	if e != api.OK {
		t.Fatal(e)
	}
}

func newPager(t *testing.T, pages int) *pager.Pager {
	t.Helper()
	d, e := disk.New(8*pages + 12*pages + 20)
	must(t, e)
	p, e := pager.Open(d, pages, 12*pages+20)
	must(t, e)
	return p
}

func open(t *testing.T, p *pager.Pager) *btree.Store {
	t.Helper()
	s, e := btree.Open(p)
	if e != api.OK || s == nil {
		t.Fatal(e)
	}
	return s
}

// model is a tree as a list of entries in order.
type model []btree.Entry

func (m model) find(key []byte) (int, bool) {
	return slices.BinarySearchFunc(m, key, func(e btree.Entry, key []byte) int { return bytes.Compare(e.Key, key) })
}

func (m model) put(key, v []byte) model {
	i, ok := m.find(key)
	if ok {
		m = slices.Clone(m)
		m[i].V = v
		return m
	}
	return slices.Insert(slices.Clone(m), i, btree.Entry{Key: key, V: v})
}

func (m model) drop(key []byte) (model, bool) {
	i, ok := m.find(key)
	if ok {
		m = slices.Delete(slices.Clone(m), i, i+1)
	}
	return m, ok
}

func same(a, b []btree.Entry) bool {
	return slices.EqualFunc(a, b, func(x, y btree.Entry) bool { return bytes.Equal(x.Key, y.Key) && bytes.Equal(x.V, y.V) })
}

// sound asks a tree all that can be asked of it.
func sound(t *testing.T, s *btree.Store, p *pager.Pager, tree int, m model) {
	t.Helper()
	must(t, s.Check(tree))
	all, e := s.Range(tree, nil, nil, math.MaxInt)
	if e != api.OK || !same(all, m) {
		t.Fatalf("Range: %d of %d, %v", len(all), len(m), e)
	}
	height, least := s.Height(tree), 1
	if len(m) == 0 {
		least = 0
	}
	if height < least || len(m) > 0 && 1<<(height-1) > len(m) {
		t.Fatalf("height %d of %d", height, len(m))
	}
	if used := used(t, p); used != s.Used() {
		t.Fatalf("%d pages are used, not %d", used, s.Used())
	}
}

// used is how many pages are, as the pages tell: page 0, and all nodes of all trees; none may be there twice.
func used(t *testing.T, p *pager.Pager) int {
	t.Helper()
	head, _ := p.Read(0)
	if bytes.Equal(head, make([]byte, 512)) {
		return 1
	}
	two := func(b []byte) int { return int(b[0])<<8 | int(b[1]) }
	seen := map[int]int{0: 1}
	see := func(at int) []byte {
		if seen[at]++; seen[at] > 1 || at >= two(head[2:]) {
			t.Fatalf("page %d", at)
		}
		b, e := p.Read(at)
		must(t, e)
		return b
	}
	free := 0
	for at := two(head[4:]); at != 0; at = two(see(at)) {
		free++
	}
	var walk func(at int)
	walk = func(at int) {
		b := see(at)
		if b[0] == 1 {
			return
		}
		walk(two(b[3:]))
		rest := b[5:]
		for range two(b[1:]) {
			n := int(rest[0])
			walk(two(rest[1+n:]))
			rest = rest[3+n:]
		}
	}
	for tree := range 8 {
		if at := two(head[6+2*tree:]); at != 0 {
			walk(at)
		}
	}
	if len(seen) != two(head[2:]) {
		t.Fatalf("%d pages of %d are found", len(seen), two(head[2:]))
	}
	return len(seen) - free
}

// P10.1: Open.
func TestOpen(t *testing.T) {
	for _, p := range []*pager.Pager{nil, {}} {
		if s, e := btree.Open(p); s != nil || e != api.ErrCrash {
			t.Error(e)
		}
	}
	page := func(b ...byte) []byte { return b }
	for i, x := range []struct {
		b []byte
		e api.Errno
	}{
		{nil, 0}, {page(79, 82, 0, 1), 0}, {page(79, 82, 0, 9), 0}, {page(79, 82, 0, 10), 11}, {page(79, 82, 1, 0), 11}, {page(79, 82, 0, 0), 11}, {page(79, 83, 0, 1), 11}, {page(78, 82, 0, 1), 11}, {page(1), 11}, {append(make([]byte, 511), 1), 11},
	} {
		p := newPager(t, 9)
		must(t, p.Write(0, x.b))
		if s, e := btree.Open(p); e != x.e || (s != nil) != (e == api.OK) {
			t.Errorf("%d: %v", i, e)
		}
	}
	d, _ := disk.New(100)
	p, _ := pager.Open(d, 4, 60)
	d.Limit(0)
	d.Sync()
	if s, e := btree.Open(p); s != nil || e != api.ErrCrash {
		t.Error(e)
	}
	d.Reopen(nil)
	if s, e := btree.Open(p); s != nil || e != api.ErrCrash {
		t.Error("broken", e)
	}
}

func TestPagesArePs(t *testing.T) {
	p := newPager(t, 20)
	s := open(t, p)
	if s.Used() != 1 || p.Dirty() != 0 {
		t.Error(s.Used(), p.Dirty())
	}
	must(t, s.Put(3, []byte("a"), []byte("1")))
	if p.Dirty() != 2 || s.Used() != 2 {
		t.Error(p.Dirty(), s.Used())
	}
	must(t, p.Commit())
	must(t, s.Put(3, []byte("b"), []byte("2")))
	p.Rollback()
	s = open(t, p)
	sound(t, s, p, 3, model{{Key: []byte("a"), V: []byte("1")}})
}

func TestTheDocumentsPages(t *testing.T) {
	p := newPager(t, 20)
	s := open(t, p)
	must(t, s.Put(2, []byte("k1"), []byte("v")))
	must(t, s.Put(2, []byte("k0"), nil))
	head, _ := p.Read(0)
	leaf, _ := p.Read(1)
	if !bytes.HasPrefix(head, []byte{79, 82, 0, 2, 0, 0, 0, 0, 0, 0, 0, 1, 0, 0}) || !bytes.HasPrefix(leaf, []byte("\x01\x00\x02\x02\x00k0\x02\x01k1v\x00")) {
		t.Errorf("%q %q", head[:24], leaf[:20])
	}
	for i := range 20 {
		must(t, s.Put(2, []byte{'x', byte(i)}, make([]byte, 64)))
	}
	head, _ = p.Read(0)
	root, _ := p.Read(int(head[11]))
	if root[0] != 2 || root[2] == 0 || int(root[5]) != 2 {
		t.Errorf("%q", root[:20])
	}
	// By hand: an inner node of two leaves.
	p = newPager(t, 9)
	must(t, p.Write(0, []byte{79, 82, 0, 4, 0, 0, 0, 3}))
	must(t, p.Write(1, []byte("\x01\x00\x01\x01\x01aA")))
	must(t, p.Write(2, []byte("\x01\x00\x02\x01\x01mM\x02\x00mm")))
	must(t, p.Write(3, []byte("\x02\x00\x01\x00\x01\x01m\x00\x02")))
	s = open(t, p)
	sound(t, s, p, 0, model{{Key: []byte("a"), V: []byte("A")}, {Key: []byte("m"), V: []byte("M")}, {Key: []byte("mm")}})
	if s.Height(0) != 2 || s.Used() != 4 {
		t.Error(s.Height(0), s.Used())
	}
}

// P10.2: what may not be, and what is not there.
func TestErrors(t *testing.T) {
	p := newPager(t, 9)
	s := open(t, p)
	key := []byte("k")
	for _, tree := range []int{-1, 8, math.MaxInt, math.MinInt} {
		if v, ok, e := s.Get(tree, key); v != nil || ok || e != api.ErrArg {
			t.Error(e)
		}
		if e := s.Put(tree, key, nil); e != api.ErrArg {
			t.Error(e)
		}
		if ok, e := s.Delete(tree, key); ok || e != api.ErrArg {
			t.Error(e)
		}
		if l, e := s.Range(tree, nil, nil, 1); l != nil || e != api.ErrArg {
			t.Error(e)
		}
		if e := s.Check(tree); e != api.ErrArg {
			t.Error(e)
		}
		if s.Height(tree) != 0 {
			t.Error("Height")
		}
	}
	for _, k := range [][]byte{nil, {}, make([]byte, 97), make([]byte, 300)} {
		if v, ok, e := s.Get(0, k); v != nil || ok || e != api.ErrArg {
			t.Error(e)
		}
		if e := s.Put(0, k, nil); e != api.ErrArg {
			t.Error(e)
		}
		if ok, e := s.Delete(0, k); ok || e != api.ErrArg {
			t.Error(e)
		}
	}
	if e := s.Put(0, key, make([]byte, 65)); e != api.ErrArg {
		t.Error(e)
	}
	for _, most := range []int{-1, math.MinInt} {
		if l, e := s.Range(0, nil, nil, most); e != api.ErrArg || l != nil {
			t.Error(e)
		}
	}
	if p.Dirty() != 0 {
		t.Error("something is written")
	}
	if v, ok, e := s.Get(0, key); v != nil || ok || e != api.OK {
		t.Error(v, ok, e)
	}
	if ok, e := s.Delete(7, key); ok || e != api.OK || p.Dirty() != 0 {
		t.Error(ok, e)
	}
	must(t, s.Put(7, make([]byte, 96), make([]byte, 64)))
	must(t, s.Put(0, key, nil))
	if v, ok, e := s.Get(0, key); len(v) != 0 || !ok || e != api.OK {
		t.Error(v, ok, e)
	}
}

func TestNone(t *testing.T) {
	for _, s := range []*btree.Store{nil, {}} {
		if v, ok, e := s.Get(0, []byte("k")); v != nil || ok || e != api.ErrCrash {
			t.Error(e)
		}
		if e := s.Put(0, []byte("k"), nil); e != api.ErrCrash {
			t.Error(e)
		}
		if ok, e := s.Delete(0, []byte("k")); ok || e != api.ErrCrash {
			t.Error(e)
		}
		if l, e := s.Range(0, nil, nil, 1); l != nil || e != api.ErrCrash {
			t.Error(e)
		}
		if e := s.Check(0); e != api.ErrCrash {
			t.Error(e)
		}
		if s.Used() != 0 || s.Height(0) != 0 {
			t.Error("numbers")
		}
	}
}

func TestRange(t *testing.T) {
	p := newPager(t, 60)
	s := open(t, p)
	var m model
	for i := range 100 {
		key := []byte{byte(i/10*2 + 1), byte(i % 10 * 2)}
		must(t, s.Put(1, key, []byte{byte(i)}))
		m = m.put(key, []byte{byte(i)})
	}
	bounds := [][]byte{nil, {}, {0}, {1}, {1, 0}, {1, 1}, {1, 255}, {5, 4}, {5, 5}, {5, 4, 0}, {19, 18}, {19, 19}, {20}, {255}, bytes.Repeat([]byte{9}, 200)}
	for _, from := range bounds {
		for _, to := range bounds {
			for _, most := range []int{0, 1, 7, 99, 100, 101, math.MaxInt} {
				var want model
				for _, x := range m {
					if bytes.Compare(x.Key, from) >= 0 && (to == nil || bytes.Compare(x.Key, to) < 0) && len(want) < most {
						want = append(want, x)
					}
				}
				if l, e := s.Range(1, from, to, most); e != api.OK || !same(l, want) {
					t.Fatalf("%v %v %d: %v %v", from, to, most, l, e)
				}
			}
		}
	}
}

func TestAnswersAreNewMemory(t *testing.T) {
	p := newPager(t, 20)
	s := open(t, p)
	key, v := []byte("key"), []byte("value")
	must(t, s.Put(0, key, v))
	must(t, s.Put(0, []byte("other"), []byte("second")))
	key[0], v[0] = 'x', 'x'
	l, _ := s.Range(0, nil, nil, 2)
	_ = append(l[0].Key, "zzzzzzzz"...)
	_ = append(l[0].V, "zzzzzzzz"...)
	got, _, _ := s.Get(0, []byte("key"))
	_ = append(got, "zzzzzzzzzzzz"...)
	got[0] = 'z'
	if string(l[1].Key) != "other" || string(l[1].V) != "second" {
		t.Error(l)
	}
	sound(t, s, p, 0, model{{Key: []byte("key"), V: []byte("value")}, {Key: []byte("other"), V: []byte("second")}})
}

// source makes keys of one kind.
type source func(r *rand.Rand) []byte

func texts(most, signs int) source {
	return func(r *rand.Rand) []byte {
		b := make([]byte, 1+r.Intn(most))
		for i := range b {
			b[i] = byte(r.Intn(signs))
		}
		return b
	}
}

// far are keys that begin alike and are long or short.
func far(r *rand.Rand) []byte {
	key := []byte{byte(r.Intn(40))}
	if r.Intn(2) == 0 {
		key = append(key, bytes.Repeat([]byte{7}, 95)...)
		key[95] = byte(r.Intn(5))
	}
	return key
}

func fixed(r *rand.Rand) []byte { return []byte{byte(r.Intn(60)), byte(r.Intn(4)), 0, 9} }

// P10.3 and P10.5: whatever is put and deleted, the tree is sound; where there is no room, nothing was written.
func TestAgainstAList(t *testing.T) {
	for name, keys := range map[string]source{"short": texts(3, 4), "long": texts(96, 3), "far": far, "fixed": fixed} {
		for seed := range 12 {
			r := rand.New(rand.NewSource(int64(seed)))
			pages := []int{3, 8, 20, 70}[seed%4]
			p := newPager(t, pages)
			s := open(t, p)
			trees := [2]model{}
			puts, full := 6, 0
			for step := range 1500 {
				tree := r.Intn(2)
				key := keys(r)
				m := trees[tree]
				if r.Intn(10) < puts {
					v := make([]byte, r.Intn(65))
					old, ok := m.find(key)
					if name == "fixed" && ok && r.Intn(2) == 0 {
						v = make([]byte, len(m[old].V))
					}
					r.Read(v)
					switch e := s.Put(tree, key, v); e {
					case api.OK:
						trees[tree] = m.put(key, v)
					case api.ErrFull:
						if ok && len(v) == len(m[old].V) {
							t.Fatal("no page is needed")
						}
						full++
					default:
						t.Fatal(name, e)
					}
				} else {
					if len(m) > 0 && r.Intn(3) > 0 {
						key = m[r.Intn(len(m))].Key
					}
					next, there := m.drop(key)
					switch ok, e := s.Delete(tree, key); e {
					case api.OK:
						if ok != there {
							t.Fatal(name, "Delete")
						}
						trees[tree] = next
					case api.ErrFull:
						if name == "fixed" {
							t.Fatal("no page is needed")
						}
						full++
					default:
						t.Fatal(name, e)
					}
				}
				if step%300 == 299 {
					puts = 3 + (step/300)%2*4
					must(t, p.Commit())
				}
				if step%4 == 0 || step < 200 {
					for tree, m := range trees {
						sound(t, s, p, tree, m)
					}
				}
				probe := keys(r)
				i, ok := trees[0].find(probe)
				v, there, e := s.Get(0, probe)
				if e != api.OK || there != ok || ok && !bytes.Equal(v, trees[0][i].V) {
					t.Fatal(name, "Get", v, there, e)
				}
			}
			for tree, m := range trees {
				for _, i := range r.Perm(len(m)) {
					if _, e := s.Delete(tree, m[i].Key); e != api.OK {
						t.Fatal(name, e)
					}
					trees[tree], _ = trees[tree].drop(m[i].Key)
				}
				sound(t, s, p, tree, nil)
			}
			if s.Used() != 1 {
				t.Fatal(name, "an empty tree uses pages", s.Used())
			}
		}
	}
}

func TestFullWritesNothing(t *testing.T) {
	p := newPager(t, 3)
	s := open(t, p)
	var last []byte
	for i := 0; ; i++ {
		key := []byte{byte(i), 1, 2, 3}
		if e := s.Put(0, key, make([]byte, 64)); e == api.ErrFull {
			last = key
			break
		} else {
			must(t, e)
		}
		must(t, p.Commit())
	}
	if p.Dirty() != 0 {
		t.Error("something is written")
	}
	if _, ok, _ := s.Get(0, last); ok {
		t.Error("it is there")
	}
	all, _ := s.Range(0, nil, nil, 100)
	for _, x := range all {
		must(t, s.Put(0, x.Key, bytes.Repeat([]byte{1}, 64)))
	}
	for _, x := range all {
		if ok, e := s.Delete(0, x.Key); !ok || e != api.OK {
			t.Error(ok, e)
		}
	}
	if s.Used() != 1 {
		t.Error(s.Used())
	}
}

func TestKeysInOrderFillNodes(t *testing.T) {
	// What comes in order, up or down or in the midst, leaves full nodes behind.
	for name, at := range map[string]func(i int) int{"up": func(i int) int { return i }, "down": func(i int) int { return 999 - i }, "runs": func(i int) int { return (9-i/100)*100 + i%100 }} {
		p := newPager(t, 400)
		s := open(t, p)
		for i := range 1000 {
			n := at(i)
			must(t, s.Put(0, []byte{byte(n >> 8), byte(n)}, make([]byte, 59))) // 8 in a leaf
		}
		if s.Used() > 150 {
			t.Error(name, s.Used())
		}
		must(t, s.Check(0))
	}
}

func TestKeysOfAllLengthsGoAway(t *testing.T) {
	for seed := range 12 {
		r := rand.New(rand.NewSource(int64(seed)))
		p := newPager(t, 900)
		s := open(t, p)
		var m model
		for range 1200 {
			key := texts(6, 3)(r)
			if r.Intn(2) == 0 {
				key = append(key, bytes.Repeat([]byte{1}, 96-len(key))...)
			}
			m = m.put(key, nil)
			must(t, s.Put(0, key, nil))
		}
		for len(m) > 0 {
			i := r.Intn(len(m))
			for range min(40, len(m)-i) {
				if ok, e := s.Delete(0, m[i].Key); !ok || e != api.OK {
					t.Fatal(ok, e)
				}
				m, _ = m.drop(m[i].Key)
			}
			sound(t, s, p, 0, m)
		}
	}
}

// TestDeleteMaySplit: a node that loses its only key takes one from its neighbour, all of whose keys are long; the key between them becomes longer, and the node above, which is nearly full, is split.
func TestDeleteMaySplit(t *testing.T) {
	key := func(g, i, size int) []byte { return append([]byte{byte(g + 1), byte(i)}, make([]byte, size-2)...) }
	ahead := []int{96, 96, 96, 96, 96, 92, 10} // the lengths of the keys ahead of the inner nodes
	for more, want := range []api.Errno{api.ErrFull, api.OK} {
		var m model
		var pages [][]byte
		add := func(b []byte) (int, []byte) {
			pages = append(pages, b)
			return len(pages), []byte{0, byte(len(pages))}
		}
		root := []byte{2, 0, byte(len(ahead) - 1)}
		for g, size := range ahead {
			count := 1
			if g == len(ahead)-2 {
				count = 5
			}
			inner := []byte{2, 0, byte(count)}
			for i := 0; i <= count; i++ {
				k := key(g, i, 96)
				if i == 0 {
					k = key(g, i, size)
				} else {
					inner = append(append(inner, byte(len(k))), k...)
				}
				_, at := add(append([]byte{1, 0, 1, byte(len(k)), 0}, k...))
				inner = append(inner, at...)
				m = m.put(k, nil)
			}
			if g > 0 {
				root = append(append(root, byte(size)), key(g, 0, size)...)
			}
			_, at := add(inner)
			root = append(root, at...)
		}
		last, at := add(root)
		p := newPager(t, last+1+more)
		for i, b := range pages {
			must(t, p.Write(i+1, b))
		}
		must(t, p.Write(0, append([]byte{79, 82, 0, byte(last + 1), 0, 0}, at...)))
		must(t, p.Commit())
		s := open(t, p)
		sound(t, s, p, 0, m)
		gone := key(len(ahead)-1, 1, 96)
		if ok, e := s.Delete(0, gone); e != want || ok != (e == api.OK) {
			t.Fatal(ok, e)
		}
		if want == api.OK {
			m, _ = m.drop(gone)
			if s.Height(0) != 4 {
				t.Error(s.Height(0))
			}
		} else if p.Dirty() != 0 {
			t.Error("something is written")
		}
		sound(t, s, p, 0, m)
	}
}

// entriesToTheEnd are eight of a leaf, of which the last one has no room for all of its bytes.
func entriesToTheEnd() string {
	var b strings.Builder
	for i := range 8 {
		b.WriteString("\x01\x40" + string(rune('m'+i)) + strings.Repeat("v", 64))
	}
	return b.String()[:api.PageSize-3]
}

// P10.4: Check.
func TestCheck(t *testing.T) {
	head := []byte{79, 82, 0, 6, 0, 0, 0, 3}
	good := map[int]string{
		1: "\x01\x00\x01\x01\x01aA",
		2: "\x01\x00\x02\x01\x01mM\x02\x00mm",
		3: "\x02\x00\x01\x00\x01\x01m\x00\x02",
		4: "\x01\x00\x01\x01\x00q",
		5: "\x02\x00\x01\x00\x01\x01b\x00\x04",
	}
	for i, x := range []struct {
		pages map[int]string
		e     api.Errno
	}{
		{nil, 0},
		{map[int]string{1: "\x01\x00\x02\x01\x01aA\x01\x00b"}, 0},
		{map[int]string{1: "\x01\x00\x00"}, 11},                                                  // a leaf without an entry
		{map[int]string{1: "\x00"}, 11},                                                          // no node
		{map[int]string{1: "\x03\x00\x01\x01\x01aA"}, 11},                                        // another kind
		{map[int]string{1: "\x01\x00\x01\x01\x01mA"}, 11},                                        // not below the key behind
		{map[int]string{2: "\x01\x00\x02\x01\x01lM\x02\x00mm"}, 11},                              // below the key ahead
		{map[int]string{2: "\x01\x00\x02\x02\x01mmM\x01\x00m"}, 11},                              // not in order
		{map[int]string{2: "\x01\x00\x02\x01\x01mM\x01\x00m"}, 11},                               // twice
		{map[int]string{2: "\x01\x00\x01\x00\x00"}, 11},                                          // a key of no bytes
		{map[int]string{2: "\x01\x00\x01\x61\x00" + strings.Repeat("m", 97)}, 11},                // a long key
		{map[int]string{2: "\x01\x00\x01\x01\x41m" + strings.Repeat("m", 65)}, 11},               // a long value
		{map[int]string{2: "\x01\x02\x00" + strings.Repeat("\x01\x00m", 160)}, 11},               // more entries than there are
		{map[int]string{2: "\x01\x00\x08" + entriesToTheEnd()}, 11},                              // an entry goes over the end
		{map[int]string{3: "\x03\x00\x01\x00\x01\x01m\x00\x02"}, 11},                             // another kind, with kids
		{map[int]string{3: "\x02\x00\x01\x00\x01\x01m\x00\x01"}, 11},                             // a page twice
		{map[int]string{3: "\x02\x00\x01\x00\x01\x01m\x00\x03"}, 11},                             // a ring
		{map[int]string{3: "\x02\x00\x01\x00\x01\x01m\x00\x06", 6: "\x01\x00\x01\x01\x00q"}, 11}, // a page that was never used, though it is a node
		{map[int]string{3: "\x02\x00\x01\x00\x01\x01m\x00\x06"}, 11},                             // a page that was never used
		{map[int]string{3: "\x02\x00\x01\x00\x00\x01m\x00\x02"}, 11},                             // page 0
		{map[int]string{3: "\x02\x00\x00\x00\x01"}, 11},                                          // one kid alone
		{map[int]string{3: "\x02\x00\x02\x00\x01\x01m\x00\x02\x01m\x00\x04"}, 11},                // keys twice
		{map[int]string{3: "\x02\x00\x02\x00\x01\x01m\x00\x02\x01p\x00\x04"}, 0},                 // three kids
		{map[int]string{3: "\x02\x00\x01\x00\x05\x01m\x00\x02"}, 11},                             // leaves not equally deep, and q not below m
		{map[int]string{3: "\x02\x00\x01\x00\x05\x01r\x00\x02", 2: "\x01\x00\x01\x01\x00s"}, 11}, // leaves not equally deep
		{map[int]string{3: "\x01\x00\x00"}, 0},                                                   // an empty tree's node
	} {
		p := newPager(t, 9)
		must(t, p.Write(0, head))
		for at, b := range good {
			if c, ok := x.pages[at]; ok {
				b = c
			}
			must(t, p.Write(at, []byte(b)))
		}
		if b, ok := x.pages[6]; ok {
			must(t, p.Write(6, []byte(b)))
		}
		if e := open(t, p).Check(0); e != x.e {
			t.Errorf("%d: %v", i, e)
		}
	}
}

// P10.2: what is torn is told, and nothing beside it.
func TestTorn(t *testing.T) {
	for i, pages := range []map[int]string{
		{3: "\x02\x00\x01\x00\x00\x01m\x00\x00"}, {3: "\x02\x00\x01\x00\x03\x01m\x00\x03"}, {3: "\x02\x00\x01\x00\x07\x01m\x00\x08"}, {3: "\x05"}, {1: "\x00", 2: "\x00"}, {3: "\x02\x00\x00\x00\x01"},
	} {
		p := newPager(t, 9)
		must(t, p.Write(0, []byte{79, 82, 0, 6, 0, 0, 0, 3}))
		must(t, p.Write(3, []byte("\x02\x00\x01\x00\x01\x01m\x00\x02")))
		for at, b := range pages {
			must(t, p.Write(at, []byte(b)))
		}
		must(t, p.Commit())
		s := open(t, p)
		for _, key := range []string{"a", "z"} {
			if v, ok, e := s.Get(0, []byte(key)); v != nil || ok || e != api.ErrTorn {
				t.Error(i, v, ok, e)
			}
			if e := s.Put(0, []byte(key), nil); e != api.ErrTorn {
				t.Error(i, e)
			}
			if ok, e := s.Delete(0, []byte(key)); ok || e != api.ErrTorn {
				t.Error(i, ok, e)
			}
		}
		if l, e := s.Range(0, nil, nil, 9); l != nil || e != api.ErrTorn {
			t.Error(i, l, e)
		}
		if e := s.Check(0); e != api.ErrTorn || p.Dirty() != 0 {
			t.Error(i, e)
		}
	}
}

// P10.2: an error of the pager's is told, and nothing beside it.
func TestDiskIsGone(t *testing.T) {
	for i, done := range []func(s *btree.Store) (bool, api.Errno){
		func(s *btree.Store) (bool, api.Errno) {
			v, ok, e := s.Get(0, []byte("k\x05"))
			return v == nil && !ok, e
		},
		func(s *btree.Store) (bool, api.Errno) {
			l, e := s.Range(0, nil, nil, 99)
			return l == nil, e
		},
		func(s *btree.Store) (bool, api.Errno) {
			ok, e := s.Delete(0, []byte("k\x05"))
			return !ok, e
		},
		func(s *btree.Store) (bool, api.Errno) { return true, s.Put(0, []byte("k\x05"), nil) },
		func(s *btree.Store) (bool, api.Errno) { return true, s.Check(0) },
	} {
		d, e := disk.New(400)
		must(t, e)
		p, e := pager.Open(d, 20, 200)
		must(t, e)
		s := open(t, p)
		for k := range 20 {
			must(t, s.Put(0, []byte{'k', byte(k)}, make([]byte, 64)))
		}
		must(t, p.Commit())
		must(t, p.Checkpoint())
		// Page 0 is read from memory, all others from their homes.
		head, _ := p.Read(0)
		must(t, p.Write(0, head))
		d.Limit(0)
		d.Sync()
		if nothing, e := done(s); !nothing || e != api.ErrCrash {
			t.Error(i, nothing, e)
		}
	}
}

// P1: a ring of free pages ends.
func TestRingOfFreePages(t *testing.T) {
	p := newPager(t, 9)
	must(t, p.Write(0, []byte{79, 82, 0, 4, 0, 2, 0, 1}))
	must(t, p.Write(1, []byte("\x01\x00\x01\x01\x01aA")))
	must(t, p.Write(2, []byte{0, 3}))
	must(t, p.Write(3, []byte{0, 2}))
	s := open(t, p)
	s.Used()
	s.Put(1, []byte("k"), nil)
	s.Delete(0, []byte("a"))
}

// P10.1 to P10.5: numbers of pages have two bytes.
func TestManyPages(t *testing.T) {
	d, e := disk.New(65536)
	must(t, e)
	p, e := pager.Open(d, 4096, 65536-8*4096)
	must(t, e)
	s := open(t, p)
	key := func(i int) []byte { return append(bytes.Repeat([]byte{'k'}, 94), byte(i>>8), byte(i)) }
	var m model
	for i := range 2400 {
		n := i * 1009 % 2400
		must(t, s.Put(n%2, key(n), bytes.Repeat([]byte{byte(n)}, 64)))
		if n%2 == 1 {
			m = append(m, btree.Entry{Key: key(n), V: bytes.Repeat([]byte{byte(n)}, 64)})
		}
	}
	if s.Used() < 700 {
		t.Fatal(s.Used())
	}
	slices.SortFunc(m, func(a, b btree.Entry) int { return bytes.Compare(a.Key, b.Key) })
	sound(t, s, p, 1, m)
	for i := range 2400 {
		if n := i * 1013 % 2400; n%2 == 0 {
			if ok, e := s.Delete(0, key(n)); !ok || e != api.OK {
				t.Fatal(ok, e)
			}
		}
	}
	sound(t, s, p, 0, nil)
	sound(t, s, p, 1, m)
	must(t, p.Commit())
	head, _ := p.Read(0)
	if head[2] < 2 || head[4] == 0 || head[8] == 0 {
		t.Error(head[:10])
	}
	p, e = pager.Open(d, 4096, 65536-8*4096)
	must(t, e)
	sound(t, open(t, p), p, 1, m)
}

// P10.4: an empty tree may have a node, without an entry.
func TestEmptyNode(t *testing.T) {
	p := newPager(t, 9)
	must(t, p.Write(0, []byte{79, 82, 0, 2, 0, 0, 0, 1}))
	must(t, p.Write(1, []byte{1, 0, 0}))
	s := open(t, p)
	if s.Check(0) != api.OK || s.Height(0) != 0 || s.Used() != 2 {
		t.Error(s.Check(0), s.Height(0), s.Used())
	}
	if l, e := s.Range(0, nil, nil, 9); len(l) != 0 || e != api.OK {
		t.Error(l, e)
	}
	if v, ok, e := s.Get(0, []byte("a")); v != nil || ok || e != api.OK {
		t.Error(v, ok, e)
	}
	must(t, s.Put(0, []byte("a"), []byte("A")))
	sound(t, s, p, 0, model{{Key: []byte("a"), V: []byte("A")}})
}

func TestHeight(t *testing.T) {
	p := newPager(t, 200)
	s := open(t, p)
	if s.Height(5) != 0 {
		t.Error("of an empty tree")
	}
	for i, last := 0, 0; last < 4; i++ {
		must(t, s.Put(5, append(bytes.Repeat([]byte{1}, 90), byte(i>>8), byte(i)), make([]byte, 64)))
		if h := s.Height(5); h < last || h > last+1 {
			t.Fatal(h)
		} else {
			last = h
		}
		if i == 0 && s.Height(5) != 1 {
			t.Error("of one entry")
		}
	}
}

// P1, W3: pages of any kind are answered, and all calls end.
func TestAnyPages(t *testing.T) {
	for seed := range 1200 {
		r := rand.New(rand.NewSource(int64(seed)))
		p := newPager(t, 12)
		s := open(t, p)
		for range 60 {
			s.Put(r.Intn(2), texts(5, 3)(r), make([]byte, r.Intn(65)))
		}
		for range 1 + r.Intn(4) {
			at := r.Intn(12)
			b, _ := p.Read(at)
			switch r.Intn(4) {
			case 0:
				b[r.Intn(12)] = byte(r.Intn(16))
			case 1:
				b[r.Intn(512)] = byte(r.Intn(256))
			case 2:
				b, _ = p.Read(r.Intn(12))
			case 3:
				r.Read(b)
				b[0] = byte(r.Intn(3))
				b[1], b[3] = 0, 0
			}
			must(t, p.Write(at, b))
		}
		s, e := btree.Open(p)
		if e != api.OK {
			continue
		}
		for range 30 {
			key := texts(5, 3)(r)
			s.Get(r.Intn(2), key)
			s.Put(r.Intn(2), key, make([]byte, r.Intn(65)))
			s.Delete(r.Intn(2), texts(5, 3)(r))
			s.Range(r.Intn(2), key, nil, 100)
			s.Check(r.Intn(2))
			s.Used()
			s.Height(r.Intn(2))
		}
	}
}
