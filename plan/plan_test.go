package plan_test

import (
	"math"
	"math/rand"
	"reflect"
	"slices"
	"strconv"
	"strings"
	"testing"

	"orangery/api"
	"orangery/guide"
	"orangery/parse"
	"orangery/path"
	"orangery/plan"
	"orangery/shred"
	"orangery/streams"
	"orangery/value"
	"orangery/walk"
)

func query(t *testing.T, s string) path.Query {
	t.Helper()
	q, e := path.Parse(s)
	if e != api.OK {
		t.Fatalf("%s: %v", s, e)
	}
	return q
}

// index is one of texts, by their IDs.
func index(t *testing.T, docs map[int]string) streams.Index {
	t.Helper()
	x := streams.New()
	for id, s := range docs {
		v, e, _ := parse.Value([]byte(s))
		if e != api.OK {
			t.Fatal(s, e)
		}
		l, _ := shred.Shred(v, 3)
		if x, e = streams.Add(x, streams.Doc{ID: id, L: l}); e != api.OK {
			t.Fatal(e)
		}
	}
	return x
}

// told are hits as texts.
func told(l []plan.Hit) string {
	var out []string
	for _, h := range l {
		out = append(out, strconv.Itoa(h.Doc)+h.Place)
	}
	return strings.Join(out, " ")
}

// P21.1: Plans.
func TestPlans(t *testing.T) {
	for s, want := range map[string][]int{
		"$": {1}, "$.a": {1, 2}, "$.a.b": {1, 2}, "$..a": {1, 2}, "$.a..b": {1, 2}, "$..a.b": {1, 2}, "$..a..b": {1}, "$.a..b..c": {1}, "$['a','b']": {1}, "$.*": {1}, "$.a[0]": {1}, "$.a[*].b": {1}, "$.a[1:2]": {1}, "$..*": {1}, "$['']": {1, 2},
		"$[?@==1]": {1, 3}, "$[?@.b==1]": {1, 3}, "$.a[?@.b==1]": {1, 3}, "$.a.b[?@.c.d=='x']": {1, 3}, "$.a[?@==null]": {1, 3}, "$.a[?@.b==true]": {1, 3}, "$.a..[?@.b==1]": {1}, "$..a[?@.b==1]": {1}, "$.a[?1==@.b]": {1}, "$.a[?@.b!=1]": {1}, "$.a[?@.b<1]": {1}, "$.a[?$.b==1]": {1}, "$.a[?@[0]==1]": {1}, "$.a[?@.b==@.c]": {1}, "$.a[?@.b]": {1}, "$.a[?@.b==1&&@.c==2]": {1}, "$.a[?@.b==1,?@.b==2]": {1}, "$.a[?@.b==1].c": {1}, "$[0][?@.b==1]": {1}, "$.a[?!(@.b==1)]": {1}, "$.a[?length(@.b)==1]": {1}, "$['a','b'][?@==1]": {1}, "$.a[?1==1]": {1},
	} {
		if got := plan.Plans(query(t, s)); !slices.Equal(got, want) {
			t.Errorf("%s: %v", s, got)
		}
	}
	for i, q := range []path.Query{{Rel: true}, {L: []path.Seg{{}}}, {L: []path.Seg{{L: []path.Sel{{What: path.Name, Name: "\xff"}}}}}, {L: []path.Seg{{L: []path.Sel{{What: path.Filter}}}}}, {L: []path.Seg{{L: []path.Sel{{What: path.Filter, F: []path.Expr{{What: path.Cmp, Op: "=="}}}}}}}} {
		x := index(t, map[int]string{1: "1"})
		if len(plan.Plans(q)) != 0 || plan.Choose(x, q) != 0 || plan.Cost(x, q, plan.Walk) != -1 {
			t.Error(i)
		}
		if l, e := plan.Run(x, q, plan.Walk); l != nil || e != api.ErrArg {
			t.Error(i, e)
		}
	}
}

// P21.2: Run.
func TestRun(t *testing.T) {
	x := index(t, map[int]string{2: `{"x":{"a":[{"b":1},{"b":2}]},"a":[{"b":1,"a":{"b":1}},{"b":{"b":1}},1]}`, -1: `{"a":{"p":{"b":1},"q":{"b":1.0},"r":1},"b":1}`, 7: `1`})
	for s, want := range map[string]string{
		"$": "-1$ 2$ 7$", "$.a": "-1$['a'] 2$['a']", "$..b": "-1$['b'] -1$['a']['p']['b'] -1$['a']['q']['b'] 2$['x']['a'][0]['b'] 2$['x']['a'][1]['b'] 2$['a'][0]['b'] 2$['a'][0]['a']['b'] 2$['a'][1]['b'] 2$['a'][1]['b']['b']", "$..a": "-1$['a'] 2$['a'] 2$['x']['a'] 2$['a'][0]['a']", "$..b.b": "2$['a'][1]['b']['b']", "$.a..b": "-1$['a']['p']['b'] -1$['a']['q']['b'] 2$['a'][0]['b'] 2$['a'][0]['a']['b'] 2$['a'][1]['b'] 2$['a'][1]['b']['b']", "$.zz": "", "$..zz": "",
		"$.a[?@.b==1]": "-1$['a']['p'] -1$['a']['q'] 2$['a'][0]", "$.a[?@==1]": "-1$['a']['r'] 2$['a'][2]", "$[?@==1]": "-1$['b']", "$.x.a[?@.b==2]": "2$['x']['a'][1]", "$.a[?@.b=='1']": "", "$.a[?@.b.b==1]": "2$['a'][1]",
	} {
		q := query(t, s)
		for _, p := range plan.Plans(q) {
			l, e := plan.Run(x, q, p)
			if e != api.OK || told(l) != want {
				t.Errorf("%s by %d: %s %v", s, p, told(l), e)
			}
			for _, h := range l {
				for _, d := range x.Docs {
					if v, _ := shred.Build(d.L); d.ID == h.Doc {
						n, e := walk.Run(query(t, h.Place), v)
						if e != api.OK || len(n) != 1 || !reflect.DeepEqual(n[0].V, h.V) {
							t.Errorf("%s: %v", s, h)
						}
					}
				}
			}
		}
		for _, p := range []int{0, -1, 4, math.MaxInt, math.MinInt} {
			if l, e := plan.Run(x, q, p); l != nil || e != api.ErrArg || plan.Cost(x, q, p) != -1 {
				t.Error(s, p, e)
			}
		}
	}
	if l, e := plan.Run(x, query(t, "$.*"), plan.Joins); l != nil || e != api.ErrArg {
		t.Error(e)
	}
	if l, e := plan.Run(x, query(t, "$.a"), plan.Index); l != nil || e != api.ErrArg {
		t.Error(e)
	}
	much := index(t, map[int]string{1: "[1]", 2: "[" + strings.Repeat("1,", 2100) + "1]"})
	if l, e := plan.Run(much, query(t, "$[*,*]"), plan.Walk); l != nil || e != api.ErrLimit {
		t.Error(e)
	}
	if l, e := plan.Run(streams.New(), query(t, "$..a"), plan.Joins); len(l) != 0 || e != api.OK {
		t.Error(e)
	}
}

// P21.3: Cost and Choose.
func TestCost(t *testing.T) {
	x := index(t, map[int]string{1: `{"a":[{"b":1},{"b":2},{"c":1}],"b":3}`, 2: `{"a":{"x":{"b":1}},"d":[]}`, 3: `0`})
	for s, want := range map[string][4]int{ // by plan; 0: what is chosen
		"$": {1, 15, -1, -1}, "$.*": {1, 15, -1, -1}, "$.a": {2, 15, 3 + 2, -1}, "$..b": {2, 15, 3 + 4, -1}, "$.a..b": {2, 15, 3 + 2 + 4, -1}, "$.b.b.b": {1, 15, 3 + 4 + 4 + 4, -1}, "$.b.b.b.zz": {1, 15, 3 + 12, -1}, "$.zz": {2, 15, 3, -1},
		"$.a[?@.b==1]": {3, 15, -1, 3}, "$.a[?@==1]": {3, 15, -1, 4}, "$[?@==1]": {3, 15, -1, 4}, "$[?@.zz==1]": {3, 15, -1, 0}, "$.d[?@==1]": {3, 15, -1, 0},
	} {
		q := query(t, s)
		got := [4]int{plan.Choose(x, q), plan.Cost(x, q, 1), plan.Cost(x, q, 2), plan.Cost(x, q, 3)}
		if got != want {
			t.Errorf("%s: %v", s, got)
		}
	}
	if plan.Choose(streams.New(), query(t, "$.a")) != plan.Walk {
		t.Error("of equal ones the first one")
	}
}

// some is a text of a source.
func some(r *rand.Rand, depth int) string {
	between := func(open, end string, n int, part func(i int) string) string {
		var l []string
		for i := range n {
			l = append(l, part(i))
		}
		return open + strings.Join(l, ",") + end
	}
	switch k := r.Intn(7); {
	case k < 2 && depth > 0:
		return between("[", "]", r.Intn(4), func(int) string { return some(r, depth-1) })
	case k < 6 && depth > 0:
		names := r.Perm(3)
		return between("{", "}", r.Intn(4), func(i int) string { return strconv.Quote("abc"[names[i]:names[i]+1]) + ":" + some(r, depth-1) })
	}
	return []string{"1", "2", `"a"`, "null", "1.0"}[r.Intn(5)]
}

func names(r *rand.Rand, n int) string {
	s := ""
	for range n {
		s += "." + "abc"[r.Intn(3):][:1]
	}
	return s
}

// P21.4, W2: all plans tell the same, in the same order: what a walk of each document tells.
func TestAllPlansTellTheSame(t *testing.T) {
	r := rand.New(rand.NewSource(1))
	found := map[int]int{}
	for range 1500 {
		docs := map[int]string{}
		for range r.Intn(5) {
			docs[r.Intn(9)-4] = some(r, 5)
		}
		x := index(t, docs)
		for range 12 {
			s := "$" + names(r, r.Intn(3))
			switch r.Intn(3) {
			case 0:
				s += "." + names(r, 1+r.Intn(3))
			case 1:
				s += "[?@" + names(r, r.Intn(3)) + "==" + []string{"1", "'a'", "null", "2"}[r.Intn(4)] + "]"
			}
			q := query(t, s)
			var want []plan.Hit
			for _, d := range x.Docs {
				v, _ := shred.Build(d.L)
				l, _ := walk.Run(q, v)
				for _, n := range l {
					want = append(want, plan.Hit{Doc: d.ID, Place: value.Place(n.At), V: n.V})
				}
			}
			for _, p := range plan.Plans(q) {
				l, e := plan.Run(x, q, p)
				if e != api.OK || len(l) != len(want) || len(l) > 0 && !reflect.DeepEqual(l, want) {
					t.Fatalf("%s by %d of %v: %s, not %s", s, p, docs, told(l), told(want))
				}
				found[p] += len(l)
			}
			if c := plan.Choose(x, q); !slices.Contains(plan.Plans(q), c) {
				t.Fatal(c)
			}
		}
	}
	if found[2] < 2000 || found[3] < 80 {
		t.Error(found)
	}
}

// TestAnyIndex: whatever an index is, what is told is what its documents tell.
func TestAnyIndex(t *testing.T) {
	good := index(t, map[int]string{1: `{"a":[{"b":1}]}`, 2: `{"a":{"b":1}}`})
	sound := good.Docs[0].L
	bad := slices.Clone(sound)
	bad[1].Level = 3
	var all []streams.Index
	for _, change := range []func(*streams.Index){
		func(x *streams.Index) { x.Lines = nil }, func(x *streams.Index) { x.G = guide.Guide{} }, func(x *streams.Index) { x.Lines = [][]int{{0}, {0, 1, 2}} }, func(x *streams.Index) { x.Lines = [][]int{{0, 0, 0, 0}, {1, 1, 1}} }, func(x *streams.Index) { x.Docs = []streams.Doc{good.Docs[1], good.Docs[0]} }, func(x *streams.Index) { x.Docs = []streams.Doc{good.Docs[0], good.Docs[0]} },
		func(x *streams.Index) { x.G.L = append(slices.Clone(x.G.L), x.G.L...) }, func(x *streams.Index) { x.Docs = []streams.Doc{{ID: 1, L: bad}} }, func(x *streams.Index) { x.Docs = []streams.Doc{{ID: 1}} }, func(x *streams.Index) { x.G.Next = 0 }, func(x *streams.Index) { x.Lines = [][]int{{9, 9, 9, 9}, {-1, 7, 8}} },
		func(x *streams.Index) {
			x.Docs, x.Lines = []streams.Doc{good.Docs[1], good.Docs[0]}, [][]int{good.Lines[1], good.Lines[0]}
		},
		func(x *streams.Index) {
			x.Docs, x.Lines = []streams.Doc{good.Docs[1], good.Docs[1], good.Docs[0]}, [][]int{good.Lines[1], good.Lines[1], good.Lines[0]}
		},
		func(x *streams.Index) { x.Lines = [][]int{good.Lines[0][:2], good.Lines[1]} }, func(x *streams.Index) { x.Lines = [][]int{nil, good.Lines[1]} }, func(x *streams.Index) { x.Lines = [][]int{good.Lines[1], good.Lines[0]} },
		func(x *streams.Index) { x.Docs, x.Lines = []streams.Doc{{ID: 1, L: bad}}, [][]int{good.Lines[0]} }, func(x *streams.Index) {
			x.Docs, x.Lines = []streams.Doc{{ID: 0}, good.Docs[0]}, [][]int{nil, good.Lines[0]}
		},
	} {
		x := good
		change(&x)
		all = append(all, x)
	}
	for i, x := range all {
		for _, s := range []string{"$.a", "$..b", "$.a.b", "$.a[?@.b==1]", "$[?@.b==1]", "$.a[?@==1]"} {
			q := query(t, s)
			want, e := plan.Run(x, q, plan.Walk)
			for _, p := range plan.Plans(q) {
				if l, f := plan.Run(x, q, p); f != e || told(l) != told(want) {
					t.Errorf("%d %s by %d: %s %v", i, s, p, told(l), f)
				}
				plan.Cost(x, q, p)
			}
			plan.Choose(x, q)
		}
	}
}

// The plans are told by these numbers.
func TestNumbers(t *testing.T) {
	if [3]int{plan.Walk, plan.Joins, plan.Index} != [3]int{1, 2, 3} {
		t.Error("plans")
	}
}
