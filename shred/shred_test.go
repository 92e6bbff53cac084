package shred_test

import (
	"math"
	"math/rand"
	"reflect"
	"slices"
	"testing"

	"orangery/api"
	"orangery/parse"
	"orangery/shred"
	"orangery/value"
)

func of(t *testing.T, s string) api.Val {
	t.Helper()
	v, e, at := parse.Value([]byte(s))
	if e != api.OK {
		t.Fatalf("%q: %v %d", s, e, at)
	}
	return v
}

func shredded(t *testing.T, v api.Val, gap int) []shred.Rec {
	t.Helper()
	l, e := shred.Shred(v, gap)
	if e != api.OK {
		t.Fatal(e)
	}
	return l
}

// some is a value of a source.
func some(r *rand.Rand, depth int) api.Val {
	kind := r.Intn(6)
	if depth == 0 {
		kind = r.Intn(4)
	}
	v := api.Val{Kind: kind}
	switch kind {
	case api.Bool:
		v.B = r.Intn(2) == 0
	case api.Num:
		v.N = api.Dec{Digits: "15", Exp: r.Intn(5)}
	case api.Str:
		v.S = []string{"", "a", "\u00e9"}[r.Intn(3)]
	case api.Arr:
		for range r.Intn(4) {
			v.L = append(v.L, some(r, depth-1))
		}
	case api.Obj:
		for _, k := range r.Perm(4)[:r.Intn(4)] {
			v.M = append(v.M, api.Member{Key: []string{"", "a", "b", "\u00e9"}[k], V: some(r, depth-1)})
		}
	}
	return v
}

// P11.1: Shred.
func TestShred(t *testing.T) {
	one := api.Dec{Digits: "1"}
	for s, want := range map[string][]shred.Rec{
		"[true]": {{Start: 10, End: 40, Kind: api.Arr}, {Start: 20, End: 30, Level: 1, Kind: api.Bool, B: true}},
		"null":   {{Start: 10, End: 20}},
		`{"b":[1,"x"],"a":{}}`: {
			{Start: 10, End: 100, Kind: api.Obj}, {Start: 20, End: 70, Level: 1, Kind: api.Arr, Named: true, Name: "b"}, {Start: 30, End: 40, Level: 2, Kind: api.Num, N: one}, {Start: 50, End: 60, Level: 2, Kind: api.Str, S: "x"}, {Start: 80, End: 90, Level: 1, Kind: api.Obj, Named: true, Name: "a"},
		},
	} {
		if l := shredded(t, of(t, s), 10); !reflect.DeepEqual(l, want) {
			t.Errorf("%s: %v", s, l)
		}
	}
	if l := shredded(t, api.Val{}, 1); l[0].Start != 1 || l[0].End != 2 {
		t.Error(l)
	}
	if l := shredded(t, api.Val{}, 1000); l[0].Start != 1000 || l[0].End != 2000 {
		t.Error(l)
	}
	for _, gap := range []int{0, -1, 1001, math.MaxInt, math.MinInt} {
		for _, v := range []api.Val{{}, {Kind: api.Obj, M: make([]api.Member, 2)}} {
			if l, e := shred.Shred(v, gap); l != nil || e != api.ErrArg {
				t.Error(gap, e)
			}
		}
	}
	deep := api.Val{Kind: api.Arr}
	for range 64 {
		deep = api.Val{Kind: api.Arr, L: []api.Val{deep}}
	}
	for want, v := range map[api.Errno]api.Val{api.ErrArg: {Kind: 6}, api.ErrTwice: {Kind: api.Obj, M: make([]api.Member, 2)}, api.ErrDeep: deep, api.ErrLimit: {Kind: api.Arr, L: make([]api.Val, 4096)}} {
		if l, e := shred.Shred(v, 1); l != nil || e != want {
			t.Error(want, e)
		}
	}
	if l := shredded(t, api.Val{Kind: api.Arr, L: make([]api.Val, 4095)}, 1000); len(l) != 4096 || !shred.Sound(l) {
		t.Error("much")
	}
}

// build is records' value by another way: what stands in one follows it, with the next level; false: there is none.
func build(l []shred.Rec) (api.Val, []shred.Rec, bool) {
	r := l[0]
	v := api.Val{Kind: r.Kind, B: r.B, N: r.N, S: r.S}
	rest := l[1:]
	for len(rest) > 0 && rest[0].Level > r.Level {
		kid := rest[0]
		x, after, ok := build(rest)
		if !ok || kid.Level != r.Level+1 || kid.Named != (r.Kind == api.Obj) || r.Kind < api.Arr {
			return v, nil, false
		}
		if kid.Named {
			v.M = append(v.M, api.Member{Key: kid.Name, V: x})
		} else {
			v.L = append(v.L, x)
		}
		rest = after
	}
	return v, rest, true
}

// numbers are those of records in the order in which they are given.
func numbers(l []shred.Rec) []int {
	var out []int
	for i, r := range l {
		out = append(out, r.Start)
		next := -1
		if i+1 < len(l) {
			next = l[i+1].Level
		}
		for k, level := i, r.Level; level >= max(next, 0); level-- {
			for l[k].Level != level {
				k--
			}
			out = append(out, l[k].End)
		}
	}
	return out
}

// sound is Sound by another way: the value that is built is shredded again.
func sound(l []shred.Rec) bool {
	if len(l) == 0 || l[0].Level != 0 {
		return false
	}
	v, rest, ok := build(l)
	if !ok || len(rest) > 0 {
		return false
	}
	again, e := shred.Shred(v, 1)
	if e != api.OK || len(again) != len(l) {
		return false
	}
	for i, r := range again {
		r.Start, r.End = l[i].Start, l[i].End
		if r != l[i] || r.Start < 0 || r.Start >= r.End || r.End > 1<<40 {
			return false
		}
	}
	all := numbers(l)
	return slices.IsSorted(all) && len(slices.Compact(all)) == 2*len(l)
}

// P11.2: Sound and Build.
func TestSound(t *testing.T) {
	rec := func(start, end, level, kind int) shred.Rec {
		return shred.Rec{Start: start, End: end, Level: level, Kind: kind}
	}
	name := func(s string, r shred.Rec) shred.Rec {
		r.Named, r.Name = true, s
		return r
	}
	for i, x := range []struct {
		l     []shred.Rec
		sound bool
	}{
		{nil, false}, {[]shred.Rec{}, false}, {[]shred.Rec{rec(0, 1, 0, 0)}, true}, {[]shred.Rec{rec(0, 1<<40, 0, 0)}, true}, {[]shred.Rec{rec(0, 1<<40+1, 0, 0)}, false}, {[]shred.Rec{rec(-1, 1, 0, 0)}, false}, {[]shred.Rec{rec(1, 1, 0, 0)}, false}, {[]shred.Rec{rec(2, 1, 0, 0)}, false}, {[]shred.Rec{rec(math.MinInt, math.MaxInt, 0, 0)}, false},
		{[]shred.Rec{rec(0, 1, 1, 0)}, false}, {[]shred.Rec{rec(0, 1, -1, 0)}, false}, {[]shred.Rec{rec(0, 1, 0, 6)}, false}, {[]shred.Rec{name("", rec(0, 1, 0, 0))}, false}, {[]shred.Rec{{End: 1, Name: "x"}}, false}, {[]shred.Rec{{End: 1, S: "x"}}, false}, {[]shred.Rec{{End: 1, Kind: api.Str, S: "\xff"}}, false}, {[]shred.Rec{{End: 1, Kind: api.Num, N: api.Dec{Digits: "10"}}}, false},
		{[]shred.Rec{rec(0, 9, 0, 4), rec(1, 2, 1, 0), rec(3, 8, 1, 4), rec(4, 5, 2, 0)}, true}, {[]shred.Rec{rec(0, 9, 0, 4), rec(1, 2, 1, 0), rec(2, 8, 1, 4)}, false}, {[]shred.Rec{rec(0, 9, 0, 4), rec(1, 9, 1, 0)}, false}, {[]shred.Rec{rec(0, 9, 0, 4), rec(1, 10, 1, 0)}, false}, {[]shred.Rec{rec(1, 9, 0, 4), rec(1, 8, 1, 0)}, false}, {[]shred.Rec{rec(0, 9, 0, 4), rec(1, 2, 2, 0)}, false}, {[]shred.Rec{rec(0, 9, 0, 4), rec(1, 2, 0, 0)}, false}, {[]shred.Rec{rec(0, 9, 0, 0), rec(1, 2, 1, 0)}, false}, {[]shred.Rec{rec(0, 9, 0, 5), rec(1, 2, 1, 0)}, false}, {[]shred.Rec{rec(0, 9, 0, 4), name("a", rec(1, 2, 1, 0))}, false}, {[]shred.Rec{rec(0, 9, 0, 4), {Start: 1, End: 2, Level: 1, Name: "a"}}, false},
		{[]shred.Rec{rec(0, 9, 0, 5), name("a", rec(1, 2, 1, 0)), name("b", rec(3, 4, 1, 0))}, true}, {[]shred.Rec{rec(0, 9, 0, 5), name("a", rec(1, 2, 1, 0)), name("a", rec(3, 4, 1, 0))}, false}, {[]shred.Rec{rec(0, 9, 0, 5), name("\xff", rec(1, 2, 1, 0))}, false}, {[]shred.Rec{rec(0, 9, 0, 5), name("b", rec(3, 4, 1, 0)), name("a", rec(1, 2, 1, 0))}, false}, {[]shred.Rec{rec(0, 9, 0, 4), rec(1, 2, math.MinInt, 0)}, false}, {[]shred.Rec{rec(0, 9, 0, 4), rec(1, 2, math.MaxInt, 0)}, false}, {make([]shred.Rec, 5000), false},
		{[]shred.Rec{rec(0, 1, 0, 0), rec(2, 3, 0, 0)}, false}, {[]shred.Rec{rec(0, 3, 0, 4), rec(1, 2, 1, 0), rec(4, 5, 0, 0)}, false}, {[]shred.Rec{rec(0, 3, 0, 4), rec(1, 2, 1, 0), rec(4, 5, 1, 0)}, false},
	} {
		if shred.Sound(x.l) != x.sound {
			t.Errorf("%d: %v", i, x.l)
		}
		if v, e := shred.Build(x.l); (e == api.OK) != x.sound || e != api.OK && (e != api.ErrForm || !reflect.DeepEqual(v, api.Val{})) {
			t.Errorf("%d: %v", i, e)
		}
	}
	deep := []shred.Rec{}
	for i := range 100000 {
		deep = append(deep, rec(i, 300000-i, i, api.Arr))
	}
	if shred.Sound(deep) || shred.Sound(deep[:66]) || shred.Sound(deep[:65]) || !shred.Sound(deep[:64]) {
		t.Error("deep")
	}
}

func TestSoundAgainstAnother(t *testing.T) {
	r := rand.New(rand.NewSource(1))
	yes := 0
	for range 60000 {
		l := shredded(t, some(r, 3), 1+r.Intn(3))
		for range r.Intn(3) {
			x := &l[r.Intn(len(l))]
			switch r.Intn(9) {
			case 0:
				x.Level += r.Intn(3) - 1
			case 1:
				x.Start += r.Intn(5) - 2
			case 2:
				x.End += r.Intn(5) - 2
			case 3:
				x.Kind = r.Intn(7)
			case 4:
				x.Named = !x.Named
			case 5:
				x.Name = []string{"", "a", "b", "\xff"}[r.Intn(4)]
			case 6:
				x.S = "s"
			case 7:
				l = slices.Delete(slices.Clone(l), r.Intn(len(l)), len(l))
			case 8:
				l = append(l, l[r.Intn(len(l))])
			}
			if len(l) == 0 {
				break
			}
		}
		want := sound(l)
		if want {
			yes++
		}
		if shred.Sound(l) != want {
			t.Fatalf("%v: %v", l, !want)
		}
	}
	if yes < 10000 || yes > 50000 {
		t.Error(yes)
	}
}

// P11.3 and P11.4: Parent, Kids, Last, Place, Find.
func TestOfPlaces(t *testing.T) {
	l := shredded(t, of(t, `{"b":[1,[2],{}],"a":{"c":[[]]}}`), 8)
	name := func(s string) api.Step { return api.Step{Named: true, Name: s} }
	at := func(i int) api.Step { return api.Step{At: i} }
	for i, x := range []struct {
		parent, last int
		kids         []int
		place        []api.Step
	}{
		{-1, 8, []int{1, 6}, nil}, {0, 5, []int{2, 3, 5}, []api.Step{name("b")}}, {1, 2, nil, []api.Step{name("b"), at(0)}}, {1, 4, []int{4}, []api.Step{name("b"), at(1)}}, {3, 4, nil, []api.Step{name("b"), at(1), at(0)}}, {1, 5, nil, []api.Step{name("b"), at(2)}}, {0, 8, []int{7}, []api.Step{name("a")}}, {6, 8, []int{8}, []api.Step{name("a"), name("c")}}, {7, 8, nil, []api.Step{name("a"), name("c"), at(0)}},
	} {
		if n := shred.Parent(l, i); n != x.parent {
			t.Errorf("Parent %d: %d", i, n)
		}
		if n := shred.Last(l, i); n != x.last {
			t.Errorf("Last %d: %d", i, n)
		}
		if k := shred.Kids(l, i); !slices.Equal(k, x.kids) {
			t.Errorf("Kids %d: %v", i, k)
		}
		if p := shred.Place(l, i); !slices.Equal(p, x.place) {
			t.Errorf("Place %d: %v", i, p)
		}
		if n := shred.Find(l, x.place); n != i {
			t.Errorf("Find %d: %d", i, n)
		}
	}
	for i, steps := range [][]api.Step{{name("x")}, {at(0)}, {name("b"), at(3)}, {name("b"), at(-1)}, {name("b"), at(math.MaxInt)}, {name("b"), name("")}, {name("b"), at(0), at(0)}, {name("a"), at(0)}, {name("b"), at(2), name("")}, {name("x"), at(0)}, {name("b"), at(3), at(0)}, {at(0), name("b")}} {
		if n := shred.Find(l, steps); n != -1 {
			t.Errorf("%d: %d", i, n)
		}
	}
	if n := shred.Find(l, []api.Step{{Named: true, Name: "b", At: 7}, {At: 1, Name: "x"}}); n != 3 {
		t.Error(n)
	}
	broken := slices.Clone(l)
	broken[3].Kind = api.Null
	for _, x := range []struct {
		l []shred.Rec
		i int
	}{{l, -1}, {l, 9}, {l, math.MaxInt}, {l, math.MinInt}, {nil, 0}, {broken, 0}, {broken, 1}} {
		if shred.Parent(x.l, x.i) != -1 || shred.Last(x.l, x.i) != -1 || len(shred.Kids(x.l, x.i)) != 0 || len(shred.Place(x.l, x.i)) != 0 {
			t.Error(x.i)
		}
	}
	if shred.Find(broken, nil) != -1 || shred.Find(nil, nil) != -1 {
		t.Error("Find")
	}
}

// P11.5: what is shredded is built again; one stands in another one just if its interval lies in that one's.
func TestShreddedIsBuilt(t *testing.T) {
	r := rand.New(rand.NewSource(2))
	for range 3000 {
		v := some(r, 4)
		l := shredded(t, v, 1+r.Intn(1000))
		w, e := shred.Build(l)
		if e != api.OK || !reflect.DeepEqual(v, w) {
			t.Fatalf("%v: %v", v, w)
		}
		for i := range l {
			x, ok := value.At(v, shred.Place(l, i))
			if !ok || x.Kind != l[i].Kind || value.Count(x) != shred.Last(l, i)-i+1 || shred.Find(l, shred.Place(l, i)) != i {
				t.Fatalf("%v %d: %v", v, i, x)
			}
			for k := range l {
				in := l[k].Start > l[i].Start && l[k].End < l[i].End
				if in != (k > i && k <= shred.Last(l, i)) {
					t.Fatalf("%v %d %d", v, i, k)
				}
			}
			for n, k := range shred.Kids(l, i) {
				if shred.Parent(l, k) != i || !l[k].Named && shred.Place(l, k)[l[k].Level-1].At != n {
					t.Fatalf("%v %d %d", v, i, k)
				}
			}
		}
	}
}
