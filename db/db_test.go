package db_test

import (
	"maps"
	"math"
	"math/rand"
	"slices"
	"strings"
	"testing"

	"orangery/api"
	"orangery/catalog"
	"orangery/db"
	"orangery/disk"
	"orangery/edits"
	"orangery/pager"
	"orangery/parse"
	"orangery/print"
	"orangery/shred"
	"orangery/value"
)

func must(t *testing.T, e api.Errno) {
	t.Helper()
	if e != api.OK {
		t.Fatal(e)
	}
}

func newDisk(t *testing.T, n int) *disk.Disk {
	t.Helper()
	d, e := disk.New(n)
	must(t, e)
	return d
}

func open(t *testing.T, d *disk.Disk, pages, log int) *db.DB {
	t.Helper()
	x, e := db.Open(d, pages, log)
	if e != api.OK || x == nil {
		t.Fatal(e)
	}
	return x
}

// fresh is a data base with room.
func fresh(t *testing.T, l ...db.Op) *db.DB {
	t.Helper()
	x := open(t, newDisk(t, 7000), 500, 3000)
	must(t, x.Do(l))
	return x
}

func made(coll string) db.Op { return db.Op{What: db.Make, Coll: coll} }
func kill(coll string) db.Op { return db.Op{What: db.Kill, Coll: coll} }
func put(coll string, id int, text string) db.Op {
	return db.Op{What: db.Put, Coll: coll, ID: id, Text: text}
}
func drop(coll string, id int) db.Op { return db.Op{What: db.Drop, Coll: coll, ID: id} }
func set(coll string, id int, v api.Val, at ...api.Step) db.Op {
	return db.Op{What: db.Set, Coll: coll, ID: id, V: v, At: at}
}
func cut(coll string, id int, at ...api.Step) db.Op {
	return db.Op{What: db.Cut, Coll: coll, ID: id, At: at}
}
func lay(coll string, id, k int, key string, v api.Val, at ...api.Step) db.Op {
	return db.Op{What: db.Lay, Coll: coll, ID: id, K: k, Text: key, V: v, At: at}
}

func name(s string) api.Step { return api.Step{Named: true, Name: s} }
func element(i int) api.Step { return api.Step{At: i} }

// val is a text's value.
func val(s string) api.Val {
	v, e, _ := parse.Value([]byte(s))
	if e != api.OK {
		panic(s)
	}
	return v
}

// model is what a data base holds.
type model map[string]map[int]string

func (m model) clone() model {
	out := model{}
	for name, l := range m {
		out[name] = maps.Clone(l)
	}
	return out
}

// do is Do on a copy.
func (m model) do(l []db.Op) (model, api.Errno) {
	m = m.clone()
	for _, op := range l {
		if e := m.one(op); e != api.OK {
			return nil, e
		}
	}
	return m, api.OK
}

func (m model) one(op db.Op) api.Errno {
	texts, there := m[op.Coll]
	good := op.Coll != "" && len(op.Coll) <= 32 && strings.Trim(op.Coll, "abcdefghijklmnopqrstuvwxyz") == ""
	switch {
	case op.What < db.Make || op.What > db.Lay:
		return api.ErrArg
	case op.What == db.Make && !good:
		return api.ErrArg
	case op.What == db.Make && there:
		return api.ErrTwice
	case op.What == db.Make:
		m[op.Coll] = map[int]string{}
		return api.OK
	case !there:
		return api.ErrName
	case op.What == db.Kill:
		delete(m, op.Coll)
		return api.OK
	}
	old, is := texts[op.ID]
	var v api.Val
	var e api.Errno
	switch {
	case op.What == db.Put && (op.ID < 0 || op.ID > math.MaxUint32):
		return api.ErrArg
	case op.What == db.Put:
		v, e, _ = parse.Value([]byte(op.Text))
	case !is:
		return api.ErrName
	case op.What == db.Drop:
		delete(texts, op.ID)
		return api.OK
	case len(op.At) > 32:
		return api.ErrArg
	case op.What == db.Set:
		v, e = value.Put(val(old), op.At, op.V)
	case op.What == db.Cut:
		v, e = value.Drop(val(old), op.At)
	default:
		v, e = laid(val(old), op)
	}
	if e != api.OK {
		return e
	}
	text, e := print.Value(v)
	if e == api.OK {
		texts[op.ID] = text
	}
	return e
}

func laid(v api.Val, op db.Op) (api.Val, api.Errno) {
	l, e := shred.Shred(v, 8)
	if e != api.OK {
		return api.Val{}, e
	}
	i := shred.Find(l, op.At)
	if i < 0 {
		return api.Val{}, api.ErrName
	}
	if l, _, e = edits.Insert(l, i, op.K, op.Text, op.V); e != api.OK {
		return api.Val{}, e
	}
	return shred.Build(l)
}

// is: does a data base hold just this?
func (m model) is(x *db.DB) bool {
	names, e := x.Colls()
	if e != api.OK || !slices.Equal(names, slices.Sorted(maps.Keys(m))) {
		return false
	}
	for name, texts := range m {
		ids, e := x.IDs(name)
		if e != api.OK || !slices.Equal(ids, slices.Sorted(maps.Keys(texts))) {
			return false
		}
		for id, text := range texts {
			if got, e := x.Get(name, id); got != text || e != api.OK {
				return false
			}
		}
	}
	return true
}

// P24.1: Open.
func TestOpen(t *testing.T) {
	dead := newDisk(t, 100)
	dead.Limit(0)
	dead.Sync()
	for i, x := range []struct {
		d          *disk.Disk
		pages, log int
		e          api.Errno
	}{{nil, 4, 60, 10}, {&disk.Disk{}, 4, 60, 10}, {dead, 0, 0, 10}, {newDisk(t, 100), 0, 60, 1}, {newDisk(t, 100), 4, 0, 1}, {newDisk(t, 100), 5, 61, 1}, {newDisk(t, 100), 5, 60, 0}, {newDisk(t, 100), math.MaxInt, math.MaxInt, 1}, {newDisk(t, 100), -1, 60, 1}} {
		if got, e := db.Open(x.d, x.pages, x.log); e != x.e || (got == nil) != (e != api.OK) {
			t.Errorf("%d: %v", i, e)
		}
	}
	d := newDisk(t, 100)
	p, e := pager.Open(d, 4, 60)
	must(t, e)
	must(t, p.Write(0, []byte{1}))
	must(t, p.Commit())
	if x, e := db.Open(d, 4, 60); x != nil || e != api.ErrTorn {
		t.Error(e)
	}
	// The trees of collections and of texts are read, too.
	for _, at := range []int{1, 2} {
		d := newDisk(t, 1000)
		x := open(t, d, 60, 500)
		must(t, x.Do([]db.Op{made("a"), put("a", 1, "1")}))
		p, e := pager.Open(d, 60, 500)
		must(t, e)
		must(t, p.Write(at, []byte{9}))
		must(t, p.Commit())
		if x, e := db.Open(d, 60, 500); x != nil || e != api.ErrTorn {
			t.Error(at, e)
		}
	}
}

func TestOpenOfTexts(t *testing.T) {
	for text, want := range map[string]api.Errno{
		`{"a":1,"b":[2]}`: 0, "null": 0, `"\u0001é"`: 0, "1e+21": 0,
		"": 11, "{": 11, `{"b":1,"a":2}`: 11, " 1": 11, "1 ": 11, "1.0": 11, "-0": 11, `{"a":1,"a":2}`: 11, "\"\xff\"": 11, `"\u0041"`: 11, strings.Repeat("[", 65) + strings.Repeat("]", 65): 11, "[1, 2]": 11,
	} {
		d := newDisk(t, 1000)
		p, e := pager.Open(d, 60, 500)
		must(t, e)
		c, e := catalog.Open(p)
		must(t, e)
		must(t, c.Do([]catalog.Op{{What: catalog.Make, Coll: "a"}, {What: catalog.Make, Coll: "b"}, {What: catalog.Put, Coll: "a", ID: 3, Text: "1"}, {What: catalog.Put, Coll: "b", ID: 7, Text: text}}))
		x, e := db.Open(d, 60, 500)
		if e != want || (x == nil) != (e != api.OK) {
			t.Errorf("%q: %v", text, e)
			continue
		}
		if e == api.OK && !(model{"a": {3: "1"}, "b": {7: text}}).is(x) {
			t.Errorf("%q", text)
		}
	}
}

// P24.2: Do, thing by thing.
func TestDo(t *testing.T) {
	x := fresh(t)
	now := model{}
	long := strings.Repeat("n", 32)
	deep := val(strings.Repeat("[", 64) + strings.Repeat("]", 64))
	many := val("[" + strings.Repeat("0,", 4094) + "0]")
	wide := api.Val{Kind: api.Str, S: strings.Repeat("x", 40000)}
	steps := func(n int) []api.Step { return slices.Repeat([]api.Step{name("a")}, n) }
	for i, x1 := range []struct {
		l []db.Op
		e api.Errno
	}{
		{nil, 0}, {[]db.Op{made("a"), put("a", 1, ` {"b" : [2, 1.0], "a":{ }} `)}, 0}, {[]db.Op{made("a")}, 7}, {[]db.Op{made("")}, 1}, {[]db.Op{made("1a")}, 1}, {[]db.Op{made(long + "n")}, 1}, {[]db.Op{made("\xff")}, 1}, {[]db.Op{made(long)}, 0},
		{[]db.Op{{What: 0, Coll: "z"}}, 1}, {[]db.Op{{What: 8, Coll: "z"}}, 1}, {[]db.Op{{What: -1}}, 1}, {[]db.Op{{What: 8, Coll: "a", ID: 1}}, 1},
		{[]db.Op{kill("z")}, 6}, {[]db.Op{drop("z", 1)}, 6}, {[]db.Op{put("z", -1, "x")}, 6}, {[]db.Op{set("z", 1, val("1"))}, 6}, {[]db.Op{cut("z", 1)}, 6}, {[]db.Op{lay("z", 1, 0, "", val("1"))}, 6}, {[]db.Op{kill("")}, 6},
		// Put.
		{[]db.Op{put("a", -1, "x")}, 1}, {[]db.Op{put("a", 1<<32, "1")}, 1}, {[]db.Op{put("a", math.MinInt, "1")}, 1}, {[]db.Op{put("a", 1<<32, "x")}, 1}, {[]db.Op{put("a", 1<<32, "1"), {What: 9}, kill("z")}, 1}, {[]db.Op{put("a", 1<<32, "1"), drop("a", 1<<32), kill("z")}, 1}, {[]db.Op{made(long + "n"), kill("z")}, 1}, {[]db.Op{made(long + "n"), kill(long + "n")}, 1}, {[]db.Op{put("a", 2, "")}, 2}, {[]db.Op{put("a", 2, "1 2")}, 2}, {[]db.Op{put("a", 2, strings.Repeat("[", 65))}, 3}, {[]db.Op{put("a", 2, strings.Repeat(" ", 65537))}, 4}, {[]db.Op{put("a", 2, `{"a":1,"a":2}`)}, 7}, {[]db.Op{put("a", 1<<32-1, "true"), put("a", 0, "[]")}, 0},
		// Drop.
		{[]db.Op{drop("a", 5)}, 6}, {[]db.Op{drop("a", -1)}, 6}, {[]db.Op{drop("a", math.MaxInt)}, 6}, {[]db.Op{drop("a", 0), drop("a", 0)}, 6}, {[]db.Op{drop("a", 0)}, 0},
		// Set: {"a":{},"b":[2,1]} of 1.
		{[]db.Op{set("a", 0, val("1"))}, 6}, {[]db.Op{set("a", -1, val("1"))}, 6}, {[]db.Op{set("a", math.MaxInt, val("1"))}, 6}, {[]db.Op{set("a", 0, val("1"), steps(33)...)}, 6}, {[]db.Op{set("a", 1, val("1"), steps(33)...)}, 1}, {[]db.Op{set("a", 1, val("1"), steps(32)...)}, 6},
		{[]db.Op{set("a", 1, val("1"), element(0))}, 8}, {[]db.Op{set("a", 1, val("1"), name("b"), name("x"))}, 8}, {[]db.Op{set("a", 1, val("1"), name("b"), element(3))}, 6}, {[]db.Op{set("a", 1, val("3"), name("b"), element(2))}, 0}, {[]db.Op{set("a", 1, val(`{"z":1,"y":2}`), name("A"))}, 0}, {[]db.Op{set("a", 1, api.Val{Kind: 9}, name("A"))}, 1}, {[]db.Op{set("a", 1, val("1"), name("\xff"))}, 1}, {[]db.Op{set("a", 1, deep, name("A"))}, 3}, {[]db.Op{set("a", 1, many, name("A"))}, 4}, {[]db.Op{set("a", 1, wide, name("A")), set("a", 1, wide, name("B"))}, 4}, {[]db.Op{set("a", 1, wide, name("A"))}, 0}, {[]db.Op{set("a", 1, val(`{"b":[2,1],"a":{}}`))}, 0},
		// Cut.
		{[]db.Op{cut("a", 9, name("a"))}, 6}, {[]db.Op{cut("a", 9, steps(33)...)}, 6}, {[]db.Op{cut("a", 1, steps(33)...)}, 1}, {[]db.Op{cut("a", 1)}, 1}, {[]db.Op{cut("a", 1, element(0))}, 8}, {[]db.Op{cut("a", 1, name("z"))}, 6}, {[]db.Op{cut("a", 1, name("b"), element(2))}, 6}, {[]db.Op{cut("a", 1, name("b"), element(0)), cut("a", 1, name("a"))}, 0},
		// Lay: {"b":[1]} of 1.
		{[]db.Op{lay("a", 9, 0, "", val("1"))}, 6}, {[]db.Op{lay("a", 9, 0, "", val("1"), steps(33)...)}, 6}, {[]db.Op{lay("a", 1, 0, "x", val("1"), steps(33)...)}, 1}, {[]db.Op{lay("a", 1, 0, "x", val("1"), name("z"))}, 6}, {[]db.Op{lay("a", 1, 0, "", val("1"), name("b"), element(1))}, 6}, {[]db.Op{lay("a", 1, 0, "", val("1"), name("b"), element(0))}, 8}, {[]db.Op{lay("a", 1, 2, "", val("1"), name("b"))}, 1}, {[]db.Op{lay("a", 1, -1, "", val("1"), name("b"))}, 1}, {[]db.Op{lay("a", 1, 0, "b", val("1"))}, 7}, {[]db.Op{lay("a", 1, 0, "\xff", val("1"))}, 1}, {[]db.Op{lay("a", 1, 0, "c", api.Val{Kind: 7})}, 1}, {[]db.Op{lay("a", 1, 0, "", deep, name("b"))}, 3},
		{[]db.Op{lay("a", 1, 1, "\xff", val("2"), name("b")), lay("a", 1, 0, "", val("0"), name("b")), lay("a", 1, 0, "z", val("null")), lay("a", 1, 1, "a", val("[]"))}, 0},
		// One thing behind the other, as if on a copy; nothing counts, if something is not OK.
		{[]db.Op{kill("a"), put("a", 1, "1")}, 6}, {[]db.Op{kill("a"), {What: 9}}, 1}, {[]db.Op{made("b"), put("b", 1, "1"), drop("a", 1), drop("a", 1)}, 6}, {[]db.Op{made("b"), put("b", 1, "[]"), lay("b", 1, 0, "", val("1")), set("b", 1, val("2"), element(0)), kill("b"), made("b"), drop("b", 1)}, 6},
		{[]db.Op{made("b"), put("b", 1, "[]"), lay("b", 1, 0, "", val("1")), kill("b")}, 0}, {[]db.Op{kill("a"), made("a"), put("a", 1<<32-1, "5"), made("b"), put("b", 1, "1"), drop("b", 1), put("b", 2, "{}"), set("b", 2, val("1"), name("k"))}, 0}, {[]db.Op{drop("b", 2), put("b", 2, "7"), put("a", 3, `"x"`), drop("a", 3)}, 0}, {[]db.Op{kill("b"), made("b"), drop("b", 2)}, 6}, {[]db.Op{kill("b"), made("b")}, 0}, {[]db.Op{kill("a"), kill("b"), kill(long)}, 0},
	} {
		next, want := now.do(x1.l)
		if want == api.OK {
			now = next
		}
		if e := x.Do(x1.l); e != x1.e || e != want || !now.is(x) {
			t.Errorf("%d: %v, %v", i, e, want)
		}
	}
}

func TestDocumentIsItsText(t *testing.T) {
	x := fresh(t, made("a"), put("a", 1, `{"b":[2,1],"a":{"d":"\u0041","c":1e1}}`))
	want := `{"a":{"c":10,"d":"A"},"b":[2,1]}`
	if text, e := x.Get("a", 1); text != want || e != api.OK {
		t.Error(text, e)
	}
	// What is laid stands among the members as they stand in the text.
	must(t, x.Do([]db.Op{lay("a", 1, 2, "0", val("true")), cut("a", 1, name("b"), element(0))}))
	if text, e := x.Get("a", 1); text != `{"0":true,"a":{"c":10,"d":"A"},"b":[1]}` || e != api.OK {
		t.Error(text, e)
	}
}

// P24.2: ErrFull changes nothing.
func TestFull(t *testing.T) {
	for _, size := range []struct{ pages, log int }{{12, 500}, {100, 80}} {
		x := open(t, newDisk(t, 8*size.pages+size.log), size.pages, size.log)
		now := model{"a": {}}
		must(t, x.Do([]db.Op{made("a")}))
		full := 0
		for i := range 30 {
			text := `"` + strings.Repeat(string(rune('a'+i%26)), 70*i) + `"`
			if e := x.Do([]db.Op{put("a", 1, "1"), put("a", i, text)}); e == api.ErrFull {
				full++
			} else {
				must(t, e)
				now["a"][1] = "1"
				now["a"][i] = text
			}
			if !now.is(x) {
				t.Fatal(i)
			}
		}
		if full == 0 || full == 30 {
			t.Error(full)
		}
	}
}

// sizes are so many that have no greater sum than most.
func sizes(r *rand.Rand, n, most int) []int {
	l := make([]int, n)
	switch r.Intn(3) {
	case 0:
		for i := range l {
			l[i] = most / n
		}
	case 1:
		for i := range l {
			l[i] = 3
		}
		l[r.Intn(n)] = most - 3*n
	default:
		for i := range l {
			l[i] = r.Intn(most + 1)
			most -= l[i]
		}
	}
	return l
}

// P24.2: there is room for four documents, whatever was there ahead.
func TestRoom(t *testing.T) {
	for seed := range 60 {
		r := rand.New(rand.NewSource(int64(seed)))
		x := open(t, newDisk(t, 1200), 80, 500)
		names, most := []string{"abcde"}, 8000
		if seed%2 == 0 {
			names, most = []string{"a", "abcde"}, 4000
		}
		now := model{}
		for _, name := range names {
			must(t, x.Do([]db.Op{made(name)}))
			now[name] = map[int]string{}
		}
		for range 25 {
			var l []db.Op
			for name, texts := range now {
				for id := range texts {
					l = append(l, drop(name, id))
				}
			}
			if r.Intn(3) == 0 {
				name := names[r.Intn(len(names))]
				l = append(l, kill(name), made(name))
			} else if r.Intn(3) == 0 {
				l = nil
				for _, name := range names {
					l = append(l, kill(name), made(name))
				}
			}
			if r.Intn(2) == 0 {
				must(t, x.Do(l))
				if next, e := now.do(l); e == api.OK {
					now = next
				}
				l = nil
			}
			for _, n := range sizes(r, 1+r.Intn(4), most) {
				text := `"` + strings.Repeat(string(rune('a'+r.Intn(26))), max(n-2, 0)) + `"`
				l = append(l, put(names[r.Intn(len(names))], r.Intn(4)*r.Intn(1<<30), text))
			}
			next, want := now.do(l)
			must(t, want)
			must(t, x.Do(l))
			if now = next; !now.is(x) {
				t.Fatal(seed)
			}
		}
	}
}

// P24.2: a document gets all the room that another one leaves in the same Do.
func TestRoomThatIsLeft(t *testing.T) {
	x := open(t, newDisk(t, 1200), 80, 500)
	must(t, x.Do([]db.Op{made("abcde"), put("abcde", 0, "1"), put("abcde", 1, `"`+strings.Repeat("x", 7990)+`"`)}))
	for i := range 8 {
		long, short := i%2, 1-i%2
		l := []db.Op{put("abcde", long, `"`+strings.Repeat("y", 7990)+`"`), put("abcde", short, "1")}
		must(t, x.Do(l))
		if text, e := x.Get("abcde", long); text != l[0].Text || e != api.OK {
			t.Fatal(e)
		}
	}
}

// P24.3: Get, IDs, Colls.
func TestGet(t *testing.T) {
	x := fresh(t, made("b"), made("a"), made("ab"), put("a", 300, "1"), put("a", 2, "2"), put("a", 1<<32-1, "3"), put("ab", 2, "4"))
	for i, w := range []struct {
		coll string
		id   int
		text string
		e    api.Errno
	}{{"a", 300, "1", 0}, {"a", 2, "2", 0}, {"a", 1<<32 - 1, "3", 0}, {"ab", 2, "4", 0}, {"a", 1, "", 6}, {"a", -1, "", 6}, {"a", math.MaxInt, "", 6}, {"b", 2, "", 6}, {"c", 2, "", 6}, {"", 2, "", 6}, {"\xff", 2, "", 6}, {strings.Repeat("a", 500), 2, "", 6}} {
		if text, e := x.Get(w.coll, w.id); text != w.text || e != w.e {
			t.Errorf("%d: %q %v", i, text, e)
		}
	}
	for coll, want := range map[string][]int{"a": {2, 300, 1<<32 - 1}, "ab": {2}, "b": nil} {
		if l, e := x.IDs(coll); !slices.Equal(l, want) || e != api.OK {
			t.Errorf("%s: %v %v", coll, l, e)
		}
	}
	for _, coll := range []string{"", "c", "a b", strings.Repeat("a", 500)} {
		if l, e := x.IDs(coll); l != nil || e != api.ErrName {
			t.Errorf("%s: %v %v", coll, l, e)
		}
	}
	if l, e := x.Colls(); !slices.Equal(l, []string{"a", "ab", "b"}) || e != api.OK {
		t.Errorf("%q %v", l, e)
	}
}

// P24.4: Ask.
func TestAsk(t *testing.T) {
	x := fresh(t, made("a"), made("b"), put("a", 1, `{"b":[2,1]}`))
	if l, e := x.Ask("a", "$.b[?@==1]", 0); e != api.OK || !slices.Equal(l, []db.Hit{{1, "$['b'][1]", "1"}}) {
		t.Error(l, e)
	}
	// By the documents' IDs, and in the order of their texts.
	must(t, x.Do([]db.Op{put("a", 300, `{"z":{"k":[]},"b":{"d":1,"c":2}}`), put("a", 0, "null"), put("b", 1, `{"b":7}`)}))
	want := []db.Hit{{1, "$['b']", "[2,1]"}, {1, "$['b'][0]", "2"}, {1, "$['b'][1]", "1"}, {300, "$['b']", `{"c":2,"d":1}`}, {300, "$['z']", `{"k":[]}`}, {300, "$['b']['c']", "2"}, {300, "$['b']['d']", "1"}, {300, "$['z']['k']", "[]"}}
	if l, e := x.Ask("a", "$..*", 1); e != api.OK || !slices.Equal(l, want) {
		t.Error(l, e)
	}
	for i, w := range []struct {
		coll, query string
		how, n      int
		e           api.Errno
	}{
		{"a", "$", 0, 3, 0}, {"a", "$", 1, 3, 0}, {"b", "$", 0, 1, 0}, {"a", "$", 2, 0, 1}, {"a", "$", -1, 0, 1}, {"a", "$", 4, 0, 1}, {"a", "$.b", 2, 2, 0}, {"a", "$.b", 3, 0, 1}, {"a", "$.b[?@==1]", 3, 2, 0}, {"a", "$.b[?@==1]", 2, 0, 1},
		{"z", "$[", 9, 0, 6}, {"", "$", 0, 0, 6}, {"a", "$[", 9, 0, 2}, {"a", "", 0, 0, 2}, {"a", "@", 0, 0, 2}, {"a", "$[?1]", 0, 0, 8}, {"a", strings.Repeat(" ", 8193), 0, 0, 4}, {"a", "$[?" + strings.Repeat("(", 32) + "@" + strings.Repeat(")", 32) + "]", 0, 0, 3}, {"a", "$" + strings.Repeat(".a", 300), 0, 0, 4},
	} {
		if l, e := x.Ask(w.coll, w.query, w.how); len(l) != w.n || e != w.e {
			t.Errorf("%d: %v %v", i, l, e)
		}
	}
	must(t, x.Do([]db.Op{put("b", 2, "["+strings.Repeat("0,", 99)+"0]")}))
	if l, e := x.Ask("b", "$["+strings.Repeat("*,", 40)+"*]", 0); l != nil || e != api.ErrLimit {
		t.Error(len(l), e)
	}
}

// P24.4: Tell.
func TestTell(t *testing.T) {
	x := fresh(t, made("a"), made("b"), put("a", 1, `{"l":[{"k":3},{"k":1},{"k":2,"m":[1]}]}`), put("a", 2, `{"l":[{"k":5},{"j":2}]}`))
	for i, w := range []struct {
		coll, query string
		how         int
		want        []string
		e           api.Errno
	}{
		{"a", "for $.l[*] where @.k > 1 order by @.k descending limit 2 return {'k': @.k}", 0, []string{`{"k":5}`, `{"k":3}`}, 0},
		{"a", "for $.l[*] order by @.k return @", 0, []string{`{"j":2}`, `{"k":1}`, `{"k":2,"m":[1]}`, `{"k":3}`, `{"k":5}`}, 0},
		{"a", "for $.l[?@.k==2] return {'z': @.k, 'a': @.m}", 3, []string{`{"a":[1],"z":2}`}, 0}, {"a", "for $.l[?@.k==2] return @.k", 1, []string{"2"}, 0}, {"a", "for $.l[?@.k==2] return @.k", 2, nil, 1}, {"a", "for $..k return @", 2, []string{"3", "1", "2", "5"}, 0}, {"a", "for $..k return @", 9, nil, 1},
		{"b", "for $ return @", 0, nil, 0}, {"z", "for", 0, nil, 6}, {"a", "for $", 9, nil, 2}, {"a", "for $ order by @.* return @", 0, nil, 8}, {"a", "for $ return {'a': @, 'a': @}", 0, nil, 7}, {"a", strings.Repeat("x", 8193), 0, nil, 4},
	} {
		if l, e := x.Tell(w.coll, w.query, w.how); !slices.Equal(l, w.want) || e != w.e || e != api.OK && l != nil {
			t.Errorf("%d: %q %v", i, l, e)
		}
	}
	// What is told may be deeper than a value may be.
	must(t, x.Do([]db.Op{put("b", 1, strings.Repeat("[", 64)+strings.Repeat("]", 64))}))
	if l, e := x.Tell("b", "for $ return {'a': @}", 0); l != nil || e != api.ErrDeep {
		t.Error(l, e)
	}
	if l, e := x.Tell("b", "for $ return @", 0); len(l) != 1 || e != api.OK {
		t.Error(l, e)
	}
}

// P24.4: Explain.
func TestExplain(t *testing.T) {
	x := fresh(t, made("a"), made("b"), put("a", 1, `{"a":{"b":1,"x":[2,2,2,2]}}`), put("a", 2, `{"a":[{"b":1}]}`))
	for i, w := range []struct {
		coll, query string
		plans       []int
		plan        int
		e           api.Errno
	}{
		{"a", "$.a..b", []int{1, 2}, 2, 0}, {"a", "$.a[?@.b==1]", []int{1, 3}, 3, 0}, {"a", "$.*", []int{1}, 1, 0}, {"b", "$.a", []int{1, 2}, 1, 0}, {"b", "$[?@==1]", []int{1, 3}, 1, 0},
		{"z", "$[", nil, 0, 6}, {"a", "$[", nil, 0, 2}, {"a", "$[?1==@.*]", nil, 0, 8},
	} {
		if l, plan, e := x.Explain(w.coll, w.query); !slices.Equal(l, w.plans) || plan != w.plan || e != w.e {
			t.Errorf("%d: %v %d %v", i, l, plan, e)
		}
	}
}

// some is a text of a value with the names a and b.
func some(r *rand.Rand, depth int) string {
	switch n := r.Intn(6); {
	case n < 2 || depth == 0:
		return []string{"1", "2", `"a"`, "null", "true"}[r.Intn(5)]
	case n < 4:
		l := make([]string, r.Intn(4))
		for i := range l {
			l[i] = some(r, depth-1)
		}
		return "[" + strings.Join(l, ",") + "]"
	}
	var l []string
	for _, key := range []string{"a", "b", "c"} {
		if r.Intn(2) == 0 {
			l = append(l, `"`+key+`":`+some(r, depth-1))
		}
	}
	return "{" + strings.Join(l, ",") + "}"
}

// P24.6, W2: all plans tell the same, and each place that is told is a query for itself.
func TestPlansTellTheSame(t *testing.T) {
	queries := []string{"$.a", "$..b", "$.a..b", "$..a.b", "$.a.b", "$..a.b.a", "$.a[?@.b==1]", "$[?@=='a']", "$.a[?@==null]", "$.b[?@.a.b==2]", "$.a.b[?@==true]"}
	told := 0
	for seed := range 60 {
		r := rand.New(rand.NewSource(int64(seed)))
		l := []db.Op{made("a")}
		for range 1 + r.Intn(5) {
			l = append(l, put("a", r.Intn(100), some(r, 6)))
		}
		x := fresh(t, l...)
		for _, q := range queries {
			plans, chosen, e := x.Explain("a", q)
			must(t, e)
			if len(plans) != 2 || !slices.Contains(plans, chosen) {
				t.Fatal(q, plans, chosen)
			}
			want, e := x.Ask("a", q, 1)
			must(t, e)
			told += len(want)
			for _, how := range []int{0, plans[1]} {
				if got, e := x.Ask("a", q, how); e != api.OK || !slices.Equal(got, want) {
					t.Fatal(q, how, got, want, e)
				}
				one, _ := x.Tell("a", "for "+q+" return @", 1)
				if got, e := x.Tell("a", "for "+q+" return @", how); e != api.OK || len(one) != len(want) || !slices.Equal(got, one) {
					t.Fatal(q, how, got, e)
				}
			}
			for _, h := range want {
				again, e := x.Ask("a", h.Place, 0)
				if e != api.OK || !slices.Contains(again, h) {
					t.Fatal(h, again, e)
				}
			}
		}
	}
	if told < 200 {
		t.Error(told)
	}
}

// P24.5: Checkpoint, what is not there, and what has crashed.
func TestCheckpoint(t *testing.T) {
	d := newDisk(t, 1000)
	x := open(t, d, 60, 500)
	must(t, x.Checkpoint())
	if d.Writes() != 0 {
		t.Error(d.Writes())
	}
	must(t, x.Do([]db.Op{made("a"), put("a", 1, "1")}))
	before := d.Writes()
	must(t, x.Checkpoint())
	if d.Writes() == before || d.Pending() != 0 {
		t.Error(d.Writes(), d.Pending())
	}
	before = d.Writes()
	must(t, x.Checkpoint())
	if d.Writes() != before {
		t.Error(d.Writes())
	}
	if !(model{"a": {1: "1"}}).is(x) || !(model{"a": {1: "1"}}).is(open(t, d, 60, 500)) {
		t.Error("behind a Checkpoint")
	}
}

func TestNone(t *testing.T) {
	crash := func(done func(x *db.DB) api.Errno) *db.DB {
		d := newDisk(t, 1000)
		x := open(t, d, 60, 500)
		must(t, x.Do([]db.Op{made("a"), put("a", 1, "1")}))
		d.Limit(0)
		if e := done(x); e != api.ErrCrash {
			t.Error(e)
		}
		d.Reopen(nil)
		return x
	}
	if e := (&db.DB{}).Do([]db.Op{{What: 99}}); e != api.ErrCrash {
		t.Error(e)
	}
	for i, x := range []*db.DB{
		nil, {}, crash((*db.DB).Checkpoint),
		crash(func(x *db.DB) api.Errno { return x.Do([]db.Op{put("a", 1, "2")}) }),
	} {
		for _, op := range []db.Op{made("a"), put("a", 1, "2"), put("a", -1, ""), {What: 99}, made("")} {
			if e := x.Do([]db.Op{op}); e != api.ErrCrash {
				t.Error(i, op, e)
			}
		}
		if e := x.Do(nil); e != api.ErrCrash {
			t.Error(i, e)
		}
		if text, e := x.Get("a", 1); text != "" || e != api.ErrCrash {
			t.Error(i, e)
		}
		if l, e := x.IDs("z"); l != nil || e != api.ErrCrash {
			t.Error(i, e)
		}
		if l, e := x.Colls(); l != nil || e != api.ErrCrash {
			t.Error(i, e)
		}
		if l, e := x.Ask("a", "$[", 9); l != nil || e != api.ErrCrash {
			t.Error(i, e)
		}
		if l, e := x.Tell("a", "", 9); l != nil || e != api.ErrCrash {
			t.Error(i, e)
		}
		if l, plan, e := x.Explain("a", "$"); l != nil || plan != 0 || e != api.ErrCrash {
			t.Error(i, e)
		}
		if e := x.Checkpoint(); e != api.ErrCrash {
			t.Error(i, e)
		}
	}
}

// An error that is no crash leaves all as it was.
func TestErrorIsNoCrash(t *testing.T) {
	x := fresh(t, made("a"))
	if e := x.Do([]db.Op{{What: 99}}); e != api.ErrArg {
		t.Error(e)
	}
	must(t, x.Do([]db.Op{put("a", 1, "1")}))
	must(t, x.Checkpoint())
	if !(model{"a": {1: "1"}}).is(x) {
		t.Error("behind an error")
	}
}

// someOps are things to do, most of which may be done.
func someOps(r *rand.Rand) []db.Op {
	var l []db.Op
	for range 1 + r.Intn(4) {
		coll, id := []string{"a", "b"}[r.Intn(2)], r.Intn(3)
		at := [][]api.Step{nil, {name("a")}, {element(0)}, {name("a"), element(1)}}[r.Intn(4)]
		switch r.Intn(9) {
		case 0:
			l = append(l, made(coll))
		case 1:
			l = append(l, drop(coll, id))
		case 2:
			if r.Intn(3) == 0 {
				l = append(l, kill(coll))
			}
		case 3:
			l = append(l, set(coll, id, val(some(r, 3)), at...))
		case 4:
			l = append(l, cut(coll, id, at...))
		case 5:
			l = append(l, lay(coll, id, r.Intn(2), []string{"a", "b", "z"}[r.Intn(3)], val(some(r, 3)), at...))
		default:
			l = append(l, put(coll, id, some(r, 5)))
		}
	}
	return l
}

func TestDoIsAsOnACopy(t *testing.T) {
	ends := map[api.Errno]int{}
	for seed := range 60 {
		r := rand.New(rand.NewSource(int64(seed)))
		x := fresh(t)
		now := model{}
		for range 60 {
			l := someOps(r)
			next, want := now.do(l)
			if want == api.OK {
				now = next
			}
			if e := x.Do(l); e != want || !now.is(x) {
				t.Fatal(l, e, want)
			}
			ends[want]++
		}
	}
	for _, e := range []api.Errno{api.OK, api.ErrArg, api.ErrName, api.ErrTwice, api.ErrType} {
		if ends[e] < 20 {
			t.Error(ends)
		}
	}
}

// P24.6, W1: behind any crash all is as the last Do that was OK left it, or as the one would have that was being done.
func TestCrashes(t *testing.T) {
	r := rand.New(rand.NewSource(1))
	ends := [2]int{}
	for range 250 {
		d := newDisk(t, 150+8*30)
		now := model{}
		for range 6 {
			x := open(t, d, 30, 150)
			d.Limit(r.Intn(200))
			var next model
			for {
				l := someOps(r)
				var want api.Errno
				next, want = now.do(l)
				e := x.Do(l)
				if e == api.ErrCrash {
					break
				}
				if e != want {
					t.Fatal(e, want)
				}
				if e == api.OK {
					now = next
				}
				if !now.is(x) {
					t.Fatal("neither done nor undone", e)
				}
				if r.Intn(9) == 0 && x.Checkpoint() != api.OK {
					next = nil
					break
				}
			}
			if e := x.Do(nil); e != api.ErrCrash {
				t.Fatal(e)
			}
			keep := make([]bool, d.Pending())
			all := r.Intn(2) == 0
			for i := range keep {
				keep[i] = all || r.Intn(3) > 0
			}
			d.Reopen(keep)
			x = open(t, d, 30, 150)
			switch {
			case now.is(x):
				ends[0]++
			case next != nil && next.is(x):
				ends[1]++
				now = next
			default:
				t.Fatal("neither as it was, nor as it would be")
			}
		}
	}
	if ends[0] < 100 || ends[1] < 10 {
		t.Error(ends)
	}
}

// W1: a document that is put, and a crash at the next write: it is got.
func TestCrashAtTheNextWrite(t *testing.T) {
	d := newDisk(t, 1000)
	x := open(t, d, 60, 500)
	must(t, x.Do([]db.Op{made("a"), put("a", 1, "[1]")}))
	d.Limit(0)
	if e := x.Do([]db.Op{put("a", 1, "2")}); e != api.ErrCrash {
		t.Error(e)
	}
	d.Reopen(nil)
	if !(model{"a": {1: "[1]"}}).is(open(t, d, 60, 500)) {
		t.Error("it is gone")
	}
}

// R1, R3: things of any kind are answered, and what is handed in stays.
func TestAnything(t *testing.T) {
	numbers := []int{0, 1, 2, -1, 7, 1 << 32, math.MaxInt, math.MinInt}
	texts := []string{"", "a", "b", "\xff", "null", "[", "{\"a\":[1]}", "$", "for $ return @"}
	steps := [][]api.Step{nil, {{}}, {{Named: true}}, {{At: -1}}, {{At: math.MaxInt}}, {name("a")}, {name("a"), {At: math.MinInt}}}
	values := []api.Val{{}, {Kind: -1}, {Kind: 4, S: "x"}, {Kind: 5, M: []api.Member{{Key: "\xff"}}}, {Kind: 5, M: []api.Member{{}, {}}}, {Kind: 2, N: api.Dec{Digits: "x"}}, {Kind: 4, L: []api.Val{{}}}}
	for seed := range 300 {
		r := rand.New(rand.NewSource(int64(seed)))
		x := open(t, newDisk(t, 300), 20, 100)
		x.Do([]db.Op{made("a"), put("a", 1, `{"a":[1,2]}`)})
		for range 20 {
			l := make([]db.Op, r.Intn(3))
			for i := range l {
				l[i] = db.Op{What: r.Intn(10) - 1, Coll: texts[r.Intn(3)], ID: numbers[r.Intn(8)], Text: texts[r.Intn(9)], At: steps[r.Intn(7)], V: values[r.Intn(7)], K: numbers[r.Intn(8)]}
			}
			x.Do(l)
			x.Get(texts[r.Intn(9)], numbers[r.Intn(8)])
			x.IDs(texts[r.Intn(9)])
			x.Ask(texts[r.Intn(3)], texts[r.Intn(9)], numbers[r.Intn(8)])
			x.Tell(texts[r.Intn(3)], texts[r.Intn(9)], numbers[r.Intn(8)])
			x.Explain(texts[r.Intn(3)], texts[r.Intn(9)])
		}
	}
}

// The things are told by these numbers.
func TestKinds(t *testing.T) {
	if [7]int{db.Make, db.Kill, db.Put, db.Drop, db.Set, db.Cut, db.Lay} != [7]int{1, 2, 3, 4, 5, 6, 7} {
		t.Error("kinds")
	}
}
