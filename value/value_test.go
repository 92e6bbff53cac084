package value_test

import (
	"math"
	"math/rand"
	"reflect"
	"slices"
	"strings"
	"testing"
	"unicode/utf8"

	"orangery/api"
	"orangery/value"
)

func null() api.Val                         { return api.Val{} }
func truth(b bool) api.Val                  { return api.Val{Kind: api.Bool, B: b} }
func text(s string) api.Val                 { return api.Val{Kind: api.Str, S: s} }
func list(l ...api.Val) api.Val             { return api.Val{Kind: api.Arr, L: l} }
func object(m ...api.Member) api.Val        { return api.Val{Kind: api.Obj, M: m} }
func member(k string, v api.Val) api.Member { return api.Member{Key: k, V: v} }
func name(s string) api.Step                { return api.Step{Named: true, Name: s} }
func at(i int) api.Step                     { return api.Step{At: i} }
func num(digits string, exp int) api.Val {
	return api.Val{Kind: api.Num, N: api.Dec{Digits: digits, Exp: exp}}
}

// nested is a value in so many Arrs.
func nested(n int, v api.Val) api.Val {
	for range n {
		v = list(v)
	}
	return v
}

// inObjects is a value in so many Objs.
func inObjects(n int, v api.Val) api.Val {
	for range n {
		v = object(member("a", v))
	}
	return v
}

// many is an Arr of so many values.
func many(n int) api.Val { return list(make([]api.Val, n)...) }

// some is a value, of a source, whose keys may be there twice if wild.
func some(source *rand.Rand, depth int, wild bool) api.Val {
	keys := []string{"", "a", "b", "c", "\u00e9", "\U00010000", "\uffff"}
	switch kind := source.Intn(6); {
	case kind == api.Bool:
		return truth(source.Intn(2) == 0)
	case kind == api.Num:
		return num([]string{"", "1", "12", "35"}[source.Intn(4)], 0)
	case kind == api.Str:
		return text(keys[source.Intn(len(keys))])
	case kind == api.Arr && depth > 0:
		v := list()
		for range source.Intn(4) {
			v.L = append(v.L, some(source, depth-1, wild))
		}
		return v
	case kind == api.Obj && depth > 0:
		v := object()
		for range source.Intn(5) {
			key := keys[source.Intn(len(keys))]
			if _, ok := value.Get(v, key); wild || !ok {
				v.M = append(v.M, member(key, some(source, depth-1, wild)))
			}
		}
		return v
	}
	return null()
}

// P3.1: Sane.
func TestSaneOfFields(t *testing.T) {
	one := api.Dec{Digits: "1"}
	for i, x := range []struct {
		v api.Val
		e api.Errno
	}{
		{null(), 0}, {truth(true), 0}, {num("15", -1), 0}, {text(""), 0}, {text("\u00e9\x00"), 0}, {list(), 0}, {object(), 0}, {object(member("", null())), 0},
		{api.Val{Kind: -1}, 1}, {api.Val{Kind: 6}, 1}, {api.Val{Kind: math.MaxInt}, 1}, {api.Val{Kind: math.MinInt}, 1},
		{api.Val{B: true}, 1}, {api.Val{N: one}, 1}, {api.Val{S: "x"}, 1}, {api.Val{L: []api.Val{{}}}, 1}, {api.Val{M: []api.Member{{}}}, 1}, {api.Val{L: []api.Val{}, M: []api.Member{}}, 0},
		{api.Val{Kind: api.Num, B: true}, 1}, {api.Val{Kind: api.Bool, N: one}, 1}, {api.Val{Kind: api.Num, S: "1"}, 1}, {api.Val{Kind: api.Obj, L: []api.Val{{}}}, 1}, {api.Val{Kind: api.Arr, M: []api.Member{{}}}, 1}, {api.Val{Kind: api.Str, L: []api.Val{{}}}, 1}, {api.Val{Kind: api.Arr, S: "x"}, 1}, {api.Val{Kind: api.Obj, N: api.Dec{Exp: 1}}, 1},
		{num("10", 0), 1}, {num("1", 400), 1}, {api.Val{Kind: api.Num, N: api.Dec{Neg: true}}, 1}, {text("a\xff"), 1}, {object(member("\xed\xa0\x80", null())), 1},
		{object(member("a", null()), member("b", null()), member("a", null())), 7},
		{list(object(member("a", null()), member("a", api.Val{Kind: 9}))), 7}, {object(member("a", null()), member("a", null()), member("\xff", null())), 1},
		{list(null(), text("\xff"), api.Val{Kind: 9}), 1}, {list(object(member("x", null()), member("x", null())), text("\xff")), 7}, {list(text("\xff"), object(member("x", null()), member("x", null()))), 1},
	} {
		if e := value.Sane(x.v); e != x.e {
			t.Errorf("%d %v: %v", i, x.v, e)
		}
	}
}

func TestSaneOfDepthAndCount(t *testing.T) {
	for i, x := range []struct {
		v api.Val
		e api.Errno
	}{
		{nested(64, null()), 0}, {nested(63, object()), 0}, {nested(64, list()), 3}, {nested(64, object()), 3}, {nested(65, null()), 3}, {nested(60000, null()), 3},
		{inObjects(64, null()), 0}, {inObjects(64, list()), 3}, {inObjects(65, null()), 3}, {inObjects(60000, null()), 3}, {inObjects(32, nested(32, null())), 0}, {inObjects(32, nested(32, object())), 3}, {nested(32, inObjects(32, list())), 3},
		{nested(64, text("\xff")), 1}, {nested(64, object(member("\xff", null()))), 1}, {nested(64, object(member("a", null()), member("a", null()))), 7},
		{many(4095), 0}, {many(4096), 4}, {many(100000), 4}, {list(many(4093), null()), 0}, {list(many(4093), null(), null()), 4},
		{list(many(4094), text("\xff")), 1}, {list(many(4095), text("\xff")), 4}, {list(many(4093), nested(70, null())), 4}, {list(many(4000), nested(70, null())), 3}, {list(nested(70, null()), many(5000)), 3}, {list(many(4094), object(member("a", null()), member("a", null()))), 7},
		{object(member("a", many(4093)), member("b", null()), member("c", null())), 4}, {object(member("a", many(4093)), member("b", null())), 0},
	} {
		if e := value.Sane(x.v); e != x.e {
			t.Errorf("%d: %v", i, e)
		}
	}
}

// alike is Same, said once more: each member that counts is held against the other's.
func alike(a, b api.Val) bool {
	if a.Kind != b.Kind || a.B != b.B || a.N != b.N || a.S != b.S || len(a.L) != len(b.L) || len(a.M) != len(b.M) {
		return false
	}
	for i := range a.L {
		if !alike(a.L[i], b.L[i]) {
			return false
		}
	}
	find := func(l []api.Member, key string) *api.Val {
		for _, m := range l {
			if m.Key == key {
				return &m.V
			}
		}
		return nil
	}
	for _, l := range [][]api.Member{a.M, b.M} {
		for _, m := range l {
			x, y := find(a.M, m.Key), find(b.M, m.Key)
			if x == nil || y == nil || !alike(*x, *y) {
				return false
			}
		}
	}
	return true
}

// P3.2: Same and Compare.
func TestSame(t *testing.T) {
	a, b, c := member("a", text("1")), member("b", text("2")), member("a", text("3"))
	for i, x := range []struct {
		a, b api.Val
		same bool
	}{
		{object(a, b), object(b, a), true}, {object(a), object(a, b), false}, {object(a, b), object(a), false}, {object(a), object(c), false},
		{object(a, c), object(a, c), true}, {object(a, c), object(a, a), true}, {object(a, c), object(c, a), false}, {object(a, c), object(a), false}, {object(a, a), object(a, b), false}, {object(a, b), object(a, a), false},
		{list(null(), truth(true)), list(truth(true), null()), false}, {list(), api.Val{Kind: api.Arr, L: []api.Val{}}, true}, {list(), object(), false}, {null(), truth(false), false},
		{api.Val{Kind: 77, M: []api.Member{a, b}}, api.Val{Kind: 77, M: []api.Member{b, a}}, true}, {api.Val{M: []api.Member{a}}, api.Val{M: []api.Member{c}}, false}, {api.Val{M: []api.Member{a}, L: []api.Val{null()}}, api.Val{M: []api.Member{a}}, false},
		{api.Val{B: true}, api.Val{}, false}, {api.Val{S: "x"}, api.Val{}, false}, {num("1", 0), num("1", 1), false}, {num("", 0), api.Val{Kind: api.Num, N: api.Dec{Neg: true}}, false},
	} {
		if value.Same(x.a, x.b) != x.same || value.Same(x.b, x.a) != x.same {
			t.Errorf("%d: %v %v", i, x.a, x.b)
		}
	}
	source := rand.New(rand.NewSource(6))
	for range 30000 {
		x, y := some(source, 2, true), some(source, 2, true)
		if value.Same(x, y) != alike(x, y) || !value.Same(x, x) || !value.Same(x, shuffled(source, x)) && noTwice(x) {
			t.Fatalf("%v %v", x, y)
		}
	}
}

func noTwice(v api.Val) bool { return value.Sane(v) == api.OK }

// shuffled is a value with its members in another order.
func shuffled(source *rand.Rand, v api.Val) api.Val {
	l, m := append([]api.Val(nil), v.L...), append([]api.Member(nil), v.M...)
	for i := range l {
		l[i] = shuffled(source, l[i])
	}
	for i := range m {
		m[i].V = shuffled(source, m[i].V)
	}
	source.Shuffle(len(m), func(i, k int) { m[i], m[k] = m[k], m[i] })
	v.L, v.M = l, m
	return v
}

func TestSameOfMuchEndsSoon(t *testing.T) {
	// Each level is asked once, not twice, though it is asked by both keys.
	v := object()
	for range 5000 {
		v = object(member("a", v))
	}
	if !value.Same(v, v) {
		t.Error("deep")
	}
}

func TestCompare(t *testing.T) {
	for i, x := range []struct {
		a, b api.Val
		n    int
		ok   bool
	}{
		{null(), null(), 0, true}, {truth(false), truth(true), -1, true}, {truth(true), truth(false), 1, true}, {truth(true), truth(true), 0, true}, {num("2", 0), num("1", 1), -1, true}, {num("1", 1), num("2", 0), 1, true}, {num("1", 0), num("1", 0), 0, true}, {num("10", 0), num("1", 0), 0, true},
		{text("a"), text("b"), -1, true}, {text("b"), text("a"), 1, true}, {text("b"), text("b"), 0, true}, {text("\uffff"), text("\U00010000"), -1, true}, {text("\xff"), text("\U00010000"), 1, true},
		{null(), truth(false), 0, false}, {text("1"), num("1", 0), 0, false}, {list(), list(), 0, false}, {object(), object(), 0, false}, {api.Val{Kind: 9}, api.Val{Kind: 9}, 0, false}, {api.Val{Kind: -1}, api.Val{Kind: -1}, 0, false},
	} {
		if n, ok := value.Compare(x.a, x.b); n != x.n || ok != x.ok {
			t.Errorf("%d: %d %v", i, n, ok)
		}
	}
}

// P3.3: Count, Depth, Get.
func TestCountDepthGet(t *testing.T) {
	odd := api.Val{Kind: api.Str, L: []api.Val{null(), list(null())}, M: []api.Member{member("a", object(member("b", null())))}}
	for i, x := range []struct {
		v            api.Val
		count, depth int
	}{{null(), 1, 1}, {list(), 1, 1}, {many(3), 4, 2}, {object(member("a", many(2)), member("a", null())), 5, 3}, {odd, 6, 3}, {nested(60000, null()), 60001, 60001}} {
		if n := value.Count(x.v); n != x.count {
			t.Errorf("Count %d: %d", i, n)
		}
		if n := value.Depth(x.v); n != x.depth {
			t.Errorf("Depth %d: %d", i, n)
		}
	}
	v := object(member("a", truth(true)), member("b", null()), member("a", truth(false)))
	if x, ok := value.Get(v, "a"); !ok || !x.B {
		t.Error("the first one")
	}
	v.Kind = api.Arr
	for _, x := range []api.Val{v, null(), object(), list(null())} {
		if got, ok := value.Get(x, "a"); ok || !reflect.DeepEqual(got, api.Val{}) {
			t.Errorf("%v: %v", x, got)
		}
	}
}

// P3.4: At, Put, Drop.
func TestAt(t *testing.T) {
	v := object(member("a", list(null(), object(member("0", text("x"))))))
	for i, x := range []struct {
		l  []api.Step
		v  api.Val
		ok bool
	}{
		{nil, v, true}, {[]api.Step{name("a"), at(1), name("0")}, text("x"), true}, {[]api.Step{{Named: true, Name: "a", At: 7}, {At: 0, Name: "z"}}, null(), true},
		{[]api.Step{name("b")}, null(), false}, {[]api.Step{at(0)}, null(), false}, {[]api.Step{name("a"), at(2)}, null(), false}, {[]api.Step{name("a"), at(-1)}, null(), false}, {[]api.Step{name("a"), at(math.MaxInt)}, null(), false}, {[]api.Step{name("a"), name("0")}, null(), false}, {[]api.Step{name("a"), at(1), name("0"), at(0)}, null(), false},
	} {
		if got, ok := value.At(v, x.l); ok != x.ok || !reflect.DeepEqual(got, x.v) {
			t.Errorf("%d: %v %v", i, got, ok)
		}
	}
}

func TestPut(t *testing.T) {
	v := object(member("a", list(null(), null())), member("a", null()), member("b", text("y")))
	x := text("x")
	for i, c := range []struct {
		l    []api.Step
		want api.Val
		e    api.Errno
	}{
		{nil, x, 0},
		{[]api.Step{name("a")}, object(member("a", x), member("a", null()), member("b", text("y"))), 0},
		{[]api.Step{name("c")}, object(append(v.M[:3:3], member("c", x))...), 0},
		{[]api.Step{name("a"), at(1)}, object(member("a", list(null(), x)), v.M[1], v.M[2]), 0},
		{[]api.Step{name("a"), at(2)}, object(member("a", list(null(), null(), x)), v.M[1], v.M[2]), 0},
		{[]api.Step{at(0)}, null(), 8}, {[]api.Step{name("a"), name("x")}, null(), 8}, {[]api.Step{name("b"), at(0)}, null(), 8}, {[]api.Step{name("b"), name("x")}, null(), 8},
		{[]api.Step{name("a"), at(3)}, null(), 6}, {[]api.Step{name("a"), at(-1)}, null(), 6}, {[]api.Step{name("a"), at(math.MinInt)}, null(), 6}, {[]api.Step{name("c"), name("d")}, null(), 6}, {[]api.Step{name("a"), at(2), at(0)}, null(), 6}, {[]api.Step{name("c"), at(0)}, null(), 6}, {[]api.Step{name("a"), at(0), at(0)}, null(), 8},
	} {
		before := shuffled(rand.New(rand.NewSource(1)), v)
		got, e := value.Put(v, c.l, x)
		if e != c.e || !reflect.DeepEqual(got, c.want) {
			t.Errorf("%d: %v %v", i, got, e)
		}
		if !reflect.DeepEqual(before, shuffled(rand.New(rand.NewSource(1)), v)) {
			t.Fatal("changed")
		}
	}
}

func TestPutKeepsWhatLiesBehindALength(t *testing.T) {
	whole := []api.Val{text("1"), text("2"), text("3")}
	members := []api.Member{member("a", text("1")), member("b", text("2"))}
	value.Put(list(whole[:1]...), []api.Step{at(1)}, null())
	value.Put(object(members[:1]...), []api.Step{name("c")}, null())
	value.Drop(list(whole...), []api.Step{at(0)})
	value.Drop(object(members...), []api.Step{name("a")})
	value.Sorted(object(members[1], members[0]))
	if whole[0].S != "1" || whole[1].S != "2" || members[0].Key != "a" || members[1].Key != "b" {
		t.Error(whole, members)
	}
}

func TestDrop(t *testing.T) {
	v := object(member("a", list(text("0"), text("1"))), member("b", null()), member("a", null()))
	for i, c := range []struct {
		l    []api.Step
		want api.Val
		e    api.Errno
	}{
		{nil, null(), 1}, {[]api.Step{name("a")}, object(v.M[1], v.M[2]), 0}, {[]api.Step{name("a"), at(0)}, object(member("a", list(text("1"))), v.M[1], v.M[2]), 0}, {[]api.Step{name("b")}, object(v.M[0], v.M[2]), 0},
		{[]api.Step{name("c")}, null(), 6}, {[]api.Step{name("c"), at(0)}, null(), 6}, {[]api.Step{name("a"), at(2)}, null(), 6}, {[]api.Step{name("a"), at(-1)}, null(), 6}, {[]api.Step{at(0)}, null(), 8}, {[]api.Step{name("b"), name("a")}, null(), 8}, {[]api.Step{name("a"), name("a")}, null(), 8},
	} {
		if got, e := value.Drop(v, c.l); e != c.e || !reflect.DeepEqual(got, c.want) {
			t.Errorf("%d: %v %v", i, got, e)
		}
	}
}

// P3.5: Sorted and Place.
func TestSorted(t *testing.T) {
	v := object(member("b", text("1")), member("\xff", null()), member("a", list(object(member("\U00010000", null()), member("\uffff", null())))), member("b", text("2")), member("", null()), member("\U00010000", null()))
	want := object(member("", null()), member("a", list(object(member("\uffff", null()), member("\U00010000", null())))), member("b", text("1")), member("b", text("2")), member("\U00010000", null()), member("\xff", null()))
	if got := value.Sorted(v); !reflect.DeepEqual(got, want) {
		t.Errorf("%v", got)
	}
	odd := api.Val{Kind: 7, L: []api.Val{{M: []api.Member{member("b", null()), member("a", null())}}}}
	if got := value.Sorted(odd); got.L[0].M[0].Key != "a" || odd.L[0].M[0].Key != "b" {
		t.Errorf("%v", got)
	}
}

func TestPlace(t *testing.T) {
	for _, x := range []struct {
		l []api.Step
		s string
	}{
		{nil, "$"}, {[]api.Step{name("a"), at(2)}, "$['a'][2]"}, {[]api.Step{at(-1), at(math.MinInt), at(math.MaxInt)}, "$[0][0][9223372036854775807]"}, {[]api.Step{{At: 1, Name: "x"}, {Named: true, At: 3}}, "$[1]['']"},
		{[]api.Step{name("'\\\"\b\t\n\f\r\x00\x1f\x7f\u00e9\xff/")}, "$['\\'\\\\\"\\b\\t\\n\\f\\r\\u0000\\u001f\x7f\u00e9\xff/']"},
	} {
		if s := value.Place(x.l); s != x.s {
			t.Errorf("%q", s)
		}
	}
}

// places are those of all values that stand in one, itself too.
func places(v api.Val, l []api.Step) [][]api.Step {
	out := [][]api.Step{l}
	for i, x := range v.L {
		out = append(out, places(x, append(l[:len(l):len(l)], at(i)))...)
	}
	for _, m := range v.M {
		out = append(out, places(m.V, append(l[:len(l):len(l)], name(m.Key)))...)
	}
	return out
}

// P3.6: what is put stands there, all other places stay; Sorted changes nothing but order.
func TestPutChangesOnePlace(t *testing.T) {
	source := rand.New(rand.NewSource(7))
	x := text("new")
	for range 3000 {
		v := some(source, 3, false)
		all := places(v, nil)
		l := all[source.Intn(len(all))]
		w, e := value.Put(v, l, x)
		if got, ok := value.At(w, l); e != api.OK || !ok || !reflect.DeepEqual(got, x) {
			t.Fatalf("%v %v: %v", v, l, got)
		}
		for _, k := range all {
			if n := min(len(k), len(l)); slices.Equal(k[:n], l[:n]) { // it stands at the place, or around it
				continue
			}
			a, _ := value.At(v, k)
			if b, ok := value.At(w, k); !ok || !reflect.DeepEqual(a, b) {
				t.Fatalf("%v %v: %v is %v", v, l, k, b)
			}
		}
		if s := value.Sorted(v); !value.Same(s, v) || value.Count(s) != value.Count(v) || value.Sane(s) != value.Sane(v) {
			t.Fatalf("%v: %v", v, s)
		}
		if len(l) == 0 {
			continue
		}
		if w, e := value.Drop(v, l); e != api.OK || value.Count(w) >= value.Count(v) || value.Sane(w) != api.OK {
			t.Fatalf("%v %v: %v", v, l, w)
		}
	}
}

// P1: nothing panics, whatever it is given.
func TestWhateverIsGiven(t *testing.T) {
	source := rand.New(rand.NewSource(8))
	for range 20000 {
		v := wild(source, 3)
		l := make([]api.Step, source.Intn(4))
		for i := range l {
			l[i] = api.Step{Name: []string{"", "a", "\xff"}[source.Intn(3)], At: source.Intn(5) - 2, Named: source.Intn(2) == 0}
		}
		value.Sane(v)
		value.Compare(v, wild(source, 1))
		value.At(v, l)
		value.Put(v, l, v)
		value.Drop(v, l)
		if !value.Same(value.Sorted(v), v) || !utf8.ValidString(value.Place(l)) && !strings.Contains(value.Place(l), "\xff") {
			t.Fatal(v)
		}
	}
}

// wild is a value of any fields.
func wild(source *rand.Rand, depth int) api.Val {
	v := api.Val{Kind: source.Intn(9) - 1, B: source.Intn(2) == 0, S: []string{"", "a", "\xff"}[source.Intn(3)], N: api.Dec{Neg: source.Intn(2) == 0, Digits: []string{"", "1", "0", "x"}[source.Intn(4)], Exp: source.Intn(3)}}
	if depth > 0 {
		for range source.Intn(3) {
			v.L = append(v.L, wild(source, depth-1))
		}
		for range source.Intn(3) {
			v.M = append(v.M, member([]string{"", "a", "\xff"}[source.Intn(3)], wild(source, depth-1)))
		}
	}
	return v
}
