package streams_test

import (
	"bytes"
	"math"
	"math/rand"
	"reflect"
	"slices"
	"strconv"
	"testing"

	"orangery/api"
	"orangery/guide"
	"orangery/keys"
	"orangery/parse"
	"orangery/shred"
	"orangery/streams"
)

func records(t *testing.T, s string, gap int) []shred.Rec {
	t.Helper()
	v, e, _ := parse.Value([]byte(s))
	if e != api.OK {
		t.Fatal(s, e)
	}
	l, e := shred.Shred(v, gap)
	if e != api.OK {
		t.Fatal(s, e)
	}
	return l
}

// index is one of texts, by their IDs, added in any order.
func index(t *testing.T, docs map[int]string) streams.Index {
	t.Helper()
	x := streams.New()
	for id, s := range docs {
		var e api.Errno
		if x, e = streams.Add(x, streams.Doc{ID: id, L: records(t, s, 5)}); e != api.OK {
			t.Fatal(e)
		}
	}
	return x
}

func number(digits string) keys.Part {
	return keys.Part{Kind: api.Num, N: api.Dec{Digits: digits}}
}
func text(s string) keys.Part { return keys.Part{Kind: api.Str, S: s} }

// ats are items as their documents and places.
func ats(l []streams.Item) [][2]int {
	out := [][2]int{}
	for _, it := range l {
		out = append(out, [2]int{it.Doc, it.At})
	}
	return out
}

// P19.1: New, Add, Drop.
func TestAddAndDrop(t *testing.T) {
	if x := streams.New(); len(x.Docs)+len(x.G.L)+x.G.Next+len(x.Lines) != 0 {
		t.Error(x)
	}
	x := index(t, map[int]string{7: `{"a":1}`, -3: `[1,2]`, 0: `{"a":{"b":[]}}`})
	var ids []int
	for i, d := range x.Docs {
		ids = append(ids, d.ID)
		for k, path := range guide.Paths(d.L) {
			if guide.Find(x.G, path) != x.Lines[i][k] {
				t.Error(d.ID, path)
			}
		}
	}
	if !slices.Equal(ids, []int{-3, 0, 7}) || !guide.Sound(x.G) || len(x.Lines) != 3 {
		t.Error(ids)
	}
	before := x
	for id, want := range map[int]api.Errno{7: api.ErrTwice, -3: api.ErrTwice, 8: api.OK} {
		y, e := streams.Add(x, streams.Doc{ID: id, L: records(t, `{"a":[3]}`, 1)})
		if e != want || e != api.OK && !reflect.DeepEqual(y, streams.Index{}) {
			t.Error(id, e)
		}
	}
	bad := records(t, "[1]", 1)
	bad[1].Level = 0
	for _, l := range [][]shred.Rec{nil, bad} {
		for _, id := range []int{7, 9} {
			if y, e := streams.Add(x, streams.Doc{ID: id, L: l}); e != api.ErrForm || !reflect.DeepEqual(y, streams.Index{}) {
				t.Error(id, e)
			}
		}
	}
	for _, id := range []int{1, math.MinInt, math.MaxInt} {
		if y, e := streams.Drop(x, id); e != api.ErrName || !reflect.DeepEqual(y, streams.Index{}) {
			t.Error(id, e)
		}
	}
	y, e := streams.Drop(x, 0)
	if e != api.OK || len(y.Docs) != 2 || y.Docs[0].ID != -3 || y.Docs[1].ID != 7 || len(y.Lines) != 2 || guide.Find(y.G, []string{".a", ".b"}) != -1 || guide.Find(y.G, []string{".a"}) < 0 {
		t.Error(y, e)
	}
	if !reflect.DeepEqual(before, x) || len(x.Docs) != 3 || x.Docs[1].ID != 0 || len(x.Lines[1]) != 3 {
		t.Error("x is changed")
	}
}

// P19.2: Of and Match.
func TestOfAndMatch(t *testing.T) {
	x := index(t, map[int]string{2: `{"a":[{"a":1},2],"b":0}`, 1: `{"b":{"a":3}}`, 5: `[[{"a":4}]]`})
	find := func(steps ...string) int { return guide.Find(x.G, steps) }
	for i, c := range []struct {
		line int
		want [][2]int
	}{
		{find(), [][2]int{{1, 0}, {2, 0}, {5, 0}}}, {find(".b"), [][2]int{{1, 1}, {2, 5}}}, {find(".a", "[]"), [][2]int{{2, 2}, {2, 4}}}, {find(".b", ".a"), [][2]int{{1, 2}}}, {-1, [][2]int{}}, {99, [][2]int{}}, {math.MinInt, [][2]int{}},
	} {
		if got := ats(streams.Of(x, c.line)); !slices.Equal(got, c.want) {
			t.Errorf("%d: %v", i, got)
		}
	}
	deep, a, each := guide.Pat{What: guide.Deep}, guide.Pat{What: guide.Name, Name: "a"}, guide.Pat{What: guide.Each}
	for i, c := range []struct {
		l    []guide.Pat
		want [][2]int
	}{
		{[]guide.Pat{deep, a}, [][2]int{{1, 2}, {2, 1}, {2, 3}, {5, 3}}}, {nil, [][2]int{{1, 0}, {2, 0}, {5, 0}}}, {[]guide.Pat{a, each}, [][2]int{{2, 2}, {2, 4}}}, {[]guide.Pat{{What: guide.Any}}, [][2]int{{1, 1}, {2, 1}, {2, 5}, {5, 1}}}, {[]guide.Pat{{What: 9}}, [][2]int{}}, {[]guide.Pat{deep}, [][2]int{{1, 0}, {1, 1}, {1, 2}, {2, 0}, {2, 1}, {2, 2}, {2, 3}, {2, 4}, {2, 5}, {5, 0}, {5, 1}, {5, 2}, {5, 3}}},
	} {
		if got := ats(streams.Match(x, c.l)); !slices.Equal(got, c.want) {
			t.Errorf("%d: %v", i, got)
		}
	}
	it := streams.Of(x, find(".b", ".a"))[0]
	if it != (streams.Item{Doc: 1, At: 2, Start: 15, End: 20, Level: 2}) {
		t.Error(it)
	}
}

// P19.3: Equal and Between.
func TestEqualAndBetween(t *testing.T) {
	x := index(t, map[int]string{1: `[null,true,2,"b",[2],-1,2]`, 2: `["",2.0,{},false,"b\u0000",15e-1]`, 3: `2`})
	line := guide.Find(x.G, []string{"[]"})
	for i, c := range []struct {
		p    keys.Part
		want [][2]int
	}{
		{number("2"), [][2]int{{1, 3}, {1, 8}, {2, 2}}}, {text("b"), [][2]int{{1, 4}}}, {text(""), [][2]int{{2, 1}}}, {keys.Part{}, [][2]int{{1, 1}}}, {keys.Part{Kind: api.Bool}, [][2]int{{2, 4}}}, {keys.Part{Kind: api.Bool, B: true}, [][2]int{{1, 2}}}, {number("3"), [][2]int{}},
		{number("20"), [][2]int{}}, {keys.Part{Kind: api.Arr}, [][2]int{}}, {keys.Part{Kind: keys.Whole, I: 2}, [][2]int{}}, {keys.Part{Kind: api.Num, N: api.Dec{Digits: "2"}, S: "x"}, [][2]int{}}, {keys.Part{S: "b"}, [][2]int{}},
	} {
		if got := ats(streams.Equal(x, line, c.p)); !slices.Equal(got, c.want) {
			t.Errorf("%d: %v", i, got)
		}
	}
	if got := ats(streams.Equal(x, guide.Find(x.G, nil), number("2"))); !slices.Equal(got, [][2]int{{3, 0}}) {
		t.Error(got)
	}
	whole := keys.Part{Kind: keys.Whole}
	for i, c := range []struct {
		from, to keys.Part
		want     [][2]int
	}{
		{keys.Part{}, whole, [][2]int{{1, 1}, {2, 4}, {1, 2}, {1, 7}, {2, 6}, {1, 3}, {1, 8}, {2, 2}, {2, 1}, {1, 4}, {2, 5}}}, {number("2"), number("2"), [][2]int{}}, {number("2"), number("3"), [][2]int{{1, 3}, {1, 8}, {2, 2}}}, {number("1"), number("2"), [][2]int{{2, 6}}}, {number("2"), text("b"), [][2]int{{1, 3}, {1, 8}, {2, 2}, {2, 1}}}, {text("b"), text("c"), [][2]int{{1, 4}, {2, 5}}}, {whole, keys.Part{}, [][2]int{}}, {number("3"), number("2"), [][2]int{}},
		{number("10"), text(""), [][2]int{}}, {keys.Part{}, keys.Part{Kind: api.Obj}, [][2]int{}}, {keys.Part{Kind: -1}, whole, [][2]int{}},
	} {
		if got := ats(streams.Between(x, line, c.from, c.to)); !slices.Equal(got, c.want) {
			t.Errorf("%d: %v", i, got)
		}
	}
	if len(streams.Between(x, -1, keys.Part{}, whole)) != 0 || len(streams.Equal(x, 77, number("2"))) != 0 {
		t.Error("no such line")
	}
}

// P19.4: Up.
func TestUp(t *testing.T) {
	x := index(t, map[int]string{1: `{"a":[1,{"b":[2]}],"c":{"d":3}}`, 2: `[[0]]`})
	all := streams.Match(x, []guide.Pat{{What: guide.Deep}})
	for _, it := range all {
		l := x.Docs[it.Doc-1].L
		up := it.At
		for level := it.Level; level >= 0; level-- {
			got, ok := streams.Up(x, it, level)
			if !ok || got.At != up || got.Doc != it.Doc || got.Level != level || got.Start != l[up].Start || got.End != l[up].End {
				t.Error(it, level, got, ok)
			}
			up = shred.Parent(l, up)
		}
		for _, level := range []int{-1, it.Level + 1, math.MaxInt, math.MinInt} {
			if got, ok := streams.Up(x, it, level); ok || got != (streams.Item{}) {
				t.Error(it, level)
			}
		}
		for _, change := range []func(*streams.Item){func(i *streams.Item) { i.Doc = 3 }, func(i *streams.Item) { i.Doc = 3 - i.Doc }, func(i *streams.Item) { i.At++ }, func(i *streams.Item) { i.At = -1 }, func(i *streams.Item) { i.At = math.MaxInt }, func(i *streams.Item) { i.Start++ }, func(i *streams.Item) { i.End-- }, func(i *streams.Item) { i.Level++ }} {
			other := it
			change(&other)
			if slices.Contains(all, other) {
				continue
			}
			if got, ok := streams.Up(x, other, other.Level); ok || got != (streams.Item{}) {
				t.Error(other)
			}
			if _, ok := streams.Up(x, other, 0); ok {
				t.Error(other)
			}
		}
	}
}

// some is a text of a source.
func some(r *rand.Rand, depth int) string {
	switch k := r.Intn(6); {
	case k == 0 && depth > 0:
		s := "["
		for i := range r.Intn(4) {
			if i > 0 {
				s += ","
			}
			s += some(r, depth-1)
		}
		return s + "]"
	case k < 3 && depth > 0:
		s := "{"
		for i, name := range []string{"a", "b", "c"}[:r.Intn(4)] {
			if i > 0 {
				s += ","
			}
			s += strconv.Quote(name) + ":" + some(r, depth-1)
		}
		return s + "}"
	}
	return []string{"1", "2", `"a"`, "null", "true", "-5"}[r.Intn(6)]
}

// P19.5 and all of it: what is added and dropped is gone; items of all lines are all records, in order.
func TestAgainstRecords(t *testing.T) {
	r := rand.New(rand.NewSource(1))
	for range 150 {
		docs := map[int]string{}
		x := streams.New()
		for range 12 {
			id := r.Intn(6) - 2
			if _, ok := docs[id]; ok {
				y, e := streams.Drop(x, id)
				if e != api.OK {
					t.Fatal(e)
				}
				delete(docs, id)
				x = y
				continue
			}
			docs[id] = some(r, 3)
			y, e := streams.Add(x, streams.Doc{ID: id, L: records(t, docs[id], 1+r.Intn(9))})
			if e != api.OK {
				t.Fatal(e)
			}
			back, e := streams.Drop(y, id)
			if back.G.Next = x.G.Next; e != api.OK || !sameIndex(back, x) {
				t.Fatal("what is added and dropped is not gone")
			}
			x = y
		}
		all := 0
		for _, line := range x.G.L {
			l := streams.Of(x, line.ID)
			all += len(l)
			if len(l) != line.Count || !slices.IsSortedFunc(l, func(a, b streams.Item) int {
				if a.Doc != b.Doc {
					return a.Doc - b.Doc
				}
				return a.Start - b.Start
			}) {
				t.Fatal(l)
			}
			between := streams.Between(x, line.ID, keys.Part{}, keys.Part{Kind: keys.Whole})
			scalars := 0
			var last []byte
			for _, it := range between {
				b := keyOf(x, it)
				if bytes.Compare(b, last) < 0 {
					t.Fatal("not in order")
				}
				last = b
				p, _ := keys.Decode(b)
				if !slices.Contains(streams.Equal(x, line.ID, p[0]), it) {
					t.Fatal(it)
				}
			}
			for _, it := range l {
				if len(keyOf(x, it)) > 0 {
					scalars++
				}
			}
			if len(between) != scalars {
				t.Fatal(len(between), scalars)
			}
		}
		want := 0
		for _, d := range x.Docs {
			want += len(d.L)
		}
		if all != want || len(streams.Match(x, []guide.Pat{{What: guide.Deep}})) != want {
			t.Fatal(all, want)
		}
	}
}

func keyOf(x streams.Index, it streams.Item) []byte {
	for _, d := range x.Docs {
		if d.ID == it.Doc {
			r := d.L[it.At]
			if p, ok := keys.Scalar(api.Val{Kind: r.Kind, B: r.B, N: r.N, S: r.S}); ok {
				b, _ := keys.Encode([]keys.Part{p})
				return b
			}
		}
	}
	return nil
}

func sameIndex(a, b streams.Index) bool {
	if len(a.Docs) != len(b.Docs) || len(a.G.L) != len(b.G.L) || a.G.Next != b.G.Next || len(a.Lines) != len(b.Lines) {
		return false
	}
	for i := range a.G.L {
		if a.G.L[i].ID != b.G.L[i].ID || a.G.L[i].Count != b.G.L[i].Count || !slices.Equal(a.G.L[i].Steps, b.G.L[i].Steps) {
			return false
		}
	}
	for i := range a.Docs {
		if a.Docs[i].ID != b.Docs[i].ID || !slices.Equal(a.Docs[i].L, b.Docs[i].L) || !slices.Equal(a.Lines[i], b.Lines[i]) {
			return false
		}
	}
	return true
}

// P1: an index of any kind is answered.
func TestAnyIndex(t *testing.T) {
	good := records(t, `{"a":[1]}`, 3)
	for i, x := range []streams.Index{
		{Docs: []streams.Doc{{ID: 1, L: good}}}, {Lines: [][]int{{0, 1, 2}}}, {Docs: []streams.Doc{{ID: 3, L: good}, {ID: 1, L: good}, {ID: 3}}, Lines: [][]int{{0, 0}, {0, 0, 0, 0, 0}}, G: guide.Guide{L: []guide.Line{{ID: 0}, {ID: 0}}}}, {Docs: []streams.Doc{{ID: 1, L: []shred.Rec{{Kind: api.Num, N: api.Dec{Digits: "x"}}}}}, Lines: [][]int{{0}}},
	} {
		streams.Of(x, 0)
		streams.Match(x, []guide.Pat{{What: guide.Deep}})
		streams.Equal(x, 0, number("1"))
		streams.Between(x, 0, keys.Part{}, keys.Part{Kind: keys.Whole})
		streams.Up(x, streams.Item{Doc: 1, At: 1}, 0)
		for _, id := range []int{0, 1, 3} {
			streams.Drop(x, id)
			if y, e := streams.Add(x, streams.Doc{ID: id, L: good}); e == api.OK && len(y.Docs) != len(y.Lines) {
				t.Error(i, id)
			}
		}
	}
	x := streams.Index{Docs: []streams.Doc{{ID: 1, L: good}}, Lines: [][]int{{5}}}
	if y, e := streams.Drop(x, 1); e != api.ErrName || len(y.Docs) != 0 {
		t.Error(e)
	}
}
