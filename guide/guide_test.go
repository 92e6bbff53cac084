package guide_test

import (
	"math"
	"math/rand"
	"reflect"
	"slices"
	"testing"

	"orangery/api"
	"orangery/guide"
	"orangery/parse"
	"orangery/shred"
)

func records(t *testing.T, s string) []shred.Rec {
	t.Helper()
	v, e, _ := parse.Value([]byte(s))
	if e != api.OK {
		t.Fatal(s, e)
	}
	l, e := shred.Shred(v, 3)
	if e != api.OK {
		t.Fatal(s, e)
	}
	return l
}

func steps(l ...string) []string { return l }

// same: are two guides the same, whether their lists are nil or not?
func same(a, b guide.Guide) bool {
	return a.Next == b.Next && slices.EqualFunc(a.L, b.L, func(x, y guide.Line) bool {
		return x.ID == y.ID && x.Count == y.Count && slices.Equal(x.Steps, y.Steps)
	})
}

// P13.1: Paths.
func TestPaths(t *testing.T) {
	for s, want := range map[string][][]string{
		"1":                               {nil},
		`{"a":[1,2]}`:                     {nil, {".a"}, {".a", "[]"}, {".a", "[]"}},
		`[[{"":{"[]":0}}],{"a":[]}]`:      {nil, {"[]"}, {"[]", "[]"}, {"[]", "[]", "."}, {"[]", "[]", ".", ".[]"}, {"[]"}, {"[]", ".a"}},
		`{"a":{"b":{"c":1}},"d":{"e":2}}`: {nil, {".a"}, {".a", ".b"}, {".a", ".b", ".c"}, {".d"}, {".d", ".e"}},
	} {
		got := guide.Paths(records(t, s))
		if !slices.EqualFunc(got, want, func(a, b []string) bool { return slices.Equal(a, b) }) {
			t.Errorf("%s: %q", s, got)
		}
	}
	bad := records(t, "[1]")
	bad[1].Level = 2
	if len(guide.Paths(bad)) != 0 || len(guide.Paths(nil)) != 0 {
		t.Error("not sound")
	}
}

// P13.2: Add and Drop.
func TestAdd(t *testing.T) {
	g, ids := guide.Add(guide.Guide{}, guide.Paths(records(t, `{"a":[1,2]}`)))
	want := guide.Guide{Next: 3, L: []guide.Line{{0, nil, 1}, {1, steps(".a"), 1}, {2, steps(".a", "[]"), 2}}}
	if !same(g, want) || !slices.Equal(ids, []int{0, 1, 2, 2}) {
		t.Error(g, ids)
	}
	h, ids := guide.Add(g, [][]string{steps(".a"), steps(".b"), steps(".b"), {}})
	if !same(g, want) {
		t.Error("g itself is changed")
	}
	if !same(h, guide.Guide{Next: 4, L: []guide.Line{{0, nil, 2}, {1, steps(".a"), 2}, {2, steps(".a", "[]"), 2}, {3, steps(".b"), 2}}}) || !slices.Equal(ids, []int{1, 3, 3, 0}) {
		t.Error(h, ids)
	}
	if h, ids := guide.Add(g, nil); !same(h, g) || len(ids) != 0 {
		t.Error(h, ids)
	}
	// Steps that look alike in one text are not the same.
	h, ids = guide.Add(guide.Guide{}, [][]string{steps("ab"), steps("a", "b"), steps("a,b"), steps("", "ab"), steps("1 a"), steps("a1 b"), steps(""), {}})
	if len(h.L) != 8 || !slices.Equal(ids, []int{0, 1, 2, 3, 4, 5, 6, 7}) {
		t.Error(h, ids)
	}
}

func TestAddToAnyGuide(t *testing.T) {
	g := guide.Guide{Next: math.MaxInt, L: []guide.Line{{7, steps("x"), math.MaxInt}, {3, steps("x"), 1}, {3, steps("y"), -1}}}
	h, ids := guide.Add(g, [][]string{steps("x"), steps("y"), steps("z"), steps("w"), steps("z")})
	want := guide.Guide{Next: math.MinInt + 1, L: []guide.Line{{7, steps("x"), math.MinInt}, {3, steps("x"), 1}, {3, steps("y"), 0}, {math.MaxInt, steps("z"), 2}, {math.MinInt, steps("w"), 1}}}
	if !same(h, want) || !slices.Equal(ids, []int{7, 3, math.MaxInt, math.MinInt, math.MaxInt}) {
		t.Error(h, ids)
	}
}

func TestDrop(t *testing.T) {
	g := guide.Guide{Next: 9, L: []guide.Line{{0, nil, 1}, {4, steps("a"), 2}, {5, steps("b"), 1}}}
	for i, x := range []struct {
		ids  []int
		want []guide.Line
		e    api.Errno
	}{
		{nil, g.L, 0}, {[]int{4}, []guide.Line{{0, nil, 1}, {4, steps("a"), 1}, {5, steps("b"), 1}}, 0}, {[]int{4, 0, 4}, g.L[2:], 0}, {[]int{5, 4, 0, 4}, nil, 0},
		{[]int{1}, nil, 6}, {[]int{4, 4, 4}, nil, 6}, {[]int{0, 5, -1}, nil, 6}, {[]int{math.MinInt}, nil, 6},
	} {
		before := slices.Clone(g.L)
		h, e := guide.Drop(g, x.ids)
		want := guide.Guide{L: x.want, Next: 9}
		if x.e != api.OK {
			want = guide.Guide{}
		}
		if e != x.e || !same(h, want) || !reflect.DeepEqual(before, g.L) {
			t.Errorf("%d: %v %v", i, h, e)
		}
	}
	odd := guide.Guide{Next: -3, L: []guide.Line{{2, steps("a"), 1}, {2, steps("b"), math.MinInt}, {2, steps("c"), 0}, {1, nil, 0}}}
	h, e := guide.Drop(odd, []int{2, 2, 1, 2})
	if e != api.OK || !same(h, guide.Guide{Next: -3, L: []guide.Line{{2, steps("b"), math.MaxInt - 1}, {2, steps("c"), 0}, {1, nil, -1}}}) {
		t.Error(h, e)
	}
}

// P13.3: Find and Below.
func TestFindAndBelow(t *testing.T) {
	g := guide.Guide{L: []guide.Line{{5, steps("a"), 1}, {3, nil, 1}, {4, steps("a", "b"), 1}, {4, steps("ab"), 1}, {6, steps("a"), 1}, {7, steps("a", "b", "c"), 1}}}
	for i, x := range []struct {
		l  []string
		id int
	}{{steps("a"), 5}, {nil, 3}, {steps(), 3}, {steps("a", "b"), 4}, {steps("ab"), 4}, {steps("b"), -1}, {steps("a", "b", "c", "d"), -1}, {steps(""), -1}} {
		if id := guide.Find(g, x.l); id != x.id {
			t.Errorf("Find %d: %d", i, id)
		}
	}
	for id, want := range map[int][]int{5: {4, 6, 7}, 3: {5, 4, 4, 6, 7}, 4: {7}, 6: {5, 4, 7}, 7: nil, 9: nil, math.MinInt: nil} {
		if got := guide.Below(g, id); !slices.Equal(got, want) {
			t.Errorf("Below %d: %v", id, got)
		}
	}
	if guide.Find(guide.Guide{}, nil) != -1 || guide.Below(guide.Guide{}, 0) != nil {
		t.Error("nothing")
	}
}

// fits is Match of one line by another way.
func fits(l []string, p []guide.Pat) bool {
	if len(p) == 0 {
		return len(l) == 0
	}
	if p[0].What == guide.Deep {
		return fits(l, p[1:]) || len(l) > 0 && fits(l[1:], p)
	}
	if len(l) == 0 {
		return false
	}
	switch p[0].What {
	case guide.Name:
		return l[0] == "."+p[0].Name && fits(l[1:], p[1:])
	case guide.Any:
		return fits(l[1:], p[1:])
	case guide.Each:
		return l[0] == "[]" && fits(l[1:], p[1:])
	}
	return false
}

// P13.4: Match.
func TestMatch(t *testing.T) {
	g, _ := guide.Add(guide.Guide{}, guide.Paths(records(t, `{"a":[{"b":1},2],"b":{"a":{"b":[]}},"[]":0,"":{"a":[[]]}}`)))
	name := func(s string) guide.Pat { return guide.Pat{What: guide.Name, Name: s} }
	deep, each, any := guide.Pat{What: guide.Deep}, guide.Pat{What: guide.Each, Name: "x"}, guide.Pat{What: guide.Any, Name: "x"}
	for i, x := range []struct {
		l    []guide.Pat
		want [][]string
	}{
		{nil, [][]string{nil}}, {[]guide.Pat{name("a")}, [][]string{{".a"}}}, {[]guide.Pat{name("[]")}, [][]string{{".[]"}}}, {[]guide.Pat{name(".a")}, nil}, {[]guide.Pat{name("")}, [][]string{{"."}}}, {[]guide.Pat{each}, nil}, {[]guide.Pat{name("a"), each}, [][]string{{".a", "[]"}}}, {[]guide.Pat{any, any}, [][]string{{".a", "[]"}, {".b", ".a"}, {".", ".a"}}},
		{[]guide.Pat{deep, name("b")}, [][]string{{".a", "[]", ".b"}, {".b"}, {".b", ".a", ".b"}}}, {[]guide.Pat{name("b"), deep}, [][]string{{".b"}, {".b", ".a"}, {".b", ".a", ".b"}}}, {[]guide.Pat{deep, each, deep, deep}, [][]string{{".a", "[]"}, {".a", "[]", ".b"}, {".", ".a", "[]"}}},
		{[]guide.Pat{{What: 0}}, nil}, {[]guide.Pat{deep, {What: 5}, deep}, nil}, {[]guide.Pat{{What: math.MinInt}}, nil}, {[]guide.Pat{{What: 9}, deep}, nil},
	} {
		var want []int
		for _, l := range x.want {
			want = append(want, guide.Find(g, l))
		}
		slices.Sort(want)
		if got := guide.Match(g, x.l); !slices.Equal(got, want) {
			t.Errorf("%d: %v, not %v", i, got, want)
		}
	}
}

func TestMatchAgainstAnother(t *testing.T) {
	r := rand.New(rand.NewSource(1))
	words := []string{".a", ".b", "[]", ".", "a", "x"}
	for range 20000 {
		var l []string
		for range r.Intn(7) {
			l = append(l, words[r.Intn(len(words))])
		}
		var p []guide.Pat
		for range r.Intn(6) {
			p = append(p, guide.Pat{What: []int{1, 1, 2, 3, 4, 4, 4, 0}[r.Intn(8)], Name: []string{"a", "b", ""}[r.Intn(3)]})
		}
		if got := guide.Match(guide.Guide{L: []guide.Line{{3, l, 1}}}, p); (len(got) == 1) != fits(l, p) {
			t.Fatalf("%q %v: %v", l, p, got)
		}
	}
	// Much of any depth is not gone through again and again.
	long := slices.Repeat([]string{".a"}, 300)
	many := slices.Repeat([]guide.Pat{{What: guide.Deep}, {What: guide.Name, Name: "a"}}, 60)
	if len(guide.Match(guide.Guide{L: []guide.Line{{3, long, 1}}}, append(many, guide.Pat{What: guide.Each}))) != 0 {
		t.Error("it does not match")
	}
}

// P13.5: Sound.
func TestSound(t *testing.T) {
	for i, x := range []struct {
		g     guide.Guide
		sound bool
	}{
		{guide.Guide{}, true}, {guide.Guide{Next: -1}, true}, {guide.Guide{Next: 1, L: []guide.Line{{0, nil, 1}}}, true}, {guide.Guide{Next: 9, L: []guide.Line{{0, steps("a"), 1}, {8, steps("b"), 7}}}, true},
		{guide.Guide{Next: 0, L: []guide.Line{{0, nil, 1}}}, false}, {guide.Guide{Next: 9, L: []guide.Line{{-1, nil, 1}}}, false}, {guide.Guide{Next: 9, L: []guide.Line{{math.MinInt, nil, 1}}}, false}, {guide.Guide{Next: 9, L: []guide.Line{{0, nil, 0}}}, false}, {guide.Guide{Next: 9, L: []guide.Line{{0, nil, -1}}}, false}, {guide.Guide{Next: 9, L: []guide.Line{{1, nil, 1}, {1, steps("a"), 1}}}, false}, {guide.Guide{Next: 9, L: []guide.Line{{2, nil, 1}, {1, steps("a"), 1}}}, false}, {guide.Guide{Next: 9, L: []guide.Line{{1, nil, 1}, {2, steps(), 1}}}, false}, {guide.Guide{Next: 9, L: []guide.Line{{1, steps("a", "b"), 1}, {2, nil, 1}, {3, steps("a", "b"), 1}}}, false}, {guide.Guide{Next: 9, L: []guide.Line{{1, steps("a"), 1}, {9, steps("b"), 1}}}, false},
	} {
		if guide.Sound(x.g) != x.sound {
			t.Errorf("%d", i)
		}
	}
}

// P13.6: what is added and dropped again is gone; the order of what is dropped says nothing.
func TestAddedAndDropped(t *testing.T) {
	r := rand.New(rand.NewSource(2))
	texts := []string{`{"a":[1,2]}`, `[{"a":1},{"b":[]}]`, `{"b":{"a":[[0]]}}`, "7", `{"a":{"b":1},"c":[]}`}
	for range 500 {
		g := guide.Guide{}
		for range r.Intn(4) {
			g, _ = guide.Add(g, guide.Paths(records(t, texts[r.Intn(5)])))
		}
		h, ids := guide.Add(g, guide.Paths(records(t, texts[r.Intn(5)])))
		if !guide.Sound(g) || !guide.Sound(h) {
			t.Fatal("Sound")
		}
		for range 3 {
			r.Shuffle(len(ids), func(i, k int) { ids[i], ids[k] = ids[k], ids[i] })
			back, e := guide.Drop(h, ids)
			if back.Next = g.Next; e != api.OK || !same(back, g) {
				t.Fatal(g, h, back)
			}
		}
	}
}

// The kinds are told by these numbers.
func TestKinds(t *testing.T) {
	if [4]int{guide.Name, guide.Any, guide.Each, guide.Deep} != [4]int{1, 2, 3, 4} {
		t.Error("kinds")
	}
}
