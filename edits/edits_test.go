package edits_test

import (
	"math"
	"math/rand"
	"reflect"
	"slices"
	"testing"

	"orangery/api"
	"orangery/edits"
	"orangery/parse"
	"orangery/shred"
	"orangery/value"
)

func of(t *testing.T, s string) api.Val {
	t.Helper()
	v, e, at := parse.Value([]byte(s))
	if e != api.OK {
		t.Fatalf("%q: %v %d", s, e, at)
	}
	return v
}

func shredded(t *testing.T, v api.Val, gap int) []shred.Rec {
	t.Helper()
	l, e := shred.Shred(v, gap)
	if e != api.OK {
		t.Fatal(e)
	}
	return l
}

// numbers are the Starts and Ends.
func numbers(l []shred.Rec) [][2]int {
	var out [][2]int
	for _, r := range l {
		out = append(out, [2]int{r.Start, r.End})
	}
	return out
}

// some is a value of a source.
func some(r *rand.Rand, depth int) api.Val {
	kind := r.Intn(6)
	if depth == 0 {
		kind = r.Intn(4)
	}
	v := api.Val{Kind: kind}
	switch kind {
	case api.Bool:
		v.B = r.Intn(2) == 0
	case api.Num:
		v.N = api.Dec{Digits: "15", Exp: r.Intn(5)}
	case api.Str:
		v.S = []string{"", "a"}[r.Intn(2)]
	case api.Arr:
		for range r.Intn(4) {
			v.L = append(v.L, some(r, depth-1))
		}
	case api.Obj:
		for _, k := range r.Perm(4)[:r.Intn(4)] {
			v.M = append(v.M, api.Member{Key: []string{"", "a", "b", "\u00e9"}[k], V: some(r, depth-1)})
		}
	}
	return v
}

var insane = map[api.Errno]api.Val{api.ErrArg: {Kind: 6}, api.ErrTwice: {Kind: api.Obj, M: make([]api.Member, 2)}, api.ErrLimit: {Kind: api.Arr, L: make([]api.Val, 4096)}}

// P12.1: ErrForm, ErrArg, Room.
func TestRoom(t *testing.T) {
	l := shredded(t, of(t, `[1,[],{"a":2}]`), 10) // 10 to 100; 20 30; 40 50; 60 90: 70 80
	for i, x := range []struct{ i, k, n int }{
		{0, 0, 9}, {0, 1, 9}, {0, 2, 9}, {0, 3, 9}, {0, 4, -1}, {0, -1, -1}, {1, 0, 9}, {1, 1, -1}, {2, 0, 9}, {3, 0, 9}, {3, 1, 9}, {3, 2, -1}, {-1, 0, -1}, {5, 0, -1}, {math.MaxInt, 0, -1}, {math.MinInt, 0, -1}, {0, math.MaxInt, -1}, {0, math.MinInt, -1},
	} {
		if n := edits.Room(l, x.i, x.k); n != x.n {
			t.Errorf("%d: %d", i, n)
		}
	}
	l[4].Start, l[4].End = 61, 62
	if edits.Room(l, 3, 0) != 0 || edits.Room(l, 3, 1) != 27 || edits.Room(l, 4, 0) != 0 {
		t.Error("other numbers")
	}
	l[4].Start = 60
	if edits.Room(l, 3, 0) != -1 || edits.Room(nil, 0, 0) != -1 {
		t.Error("not sound")
	}
}

func TestErrors(t *testing.T) {
	good := shredded(t, of(t, `{"a":[1],"b":2}`), 10)
	bad := slices.Clone(good)
	bad[1].Level = 7
	for i, x := range []struct {
		l []shred.Rec
		i int
		e api.Errno
	}{{bad, 0, 2}, {nil, 0, 2}, {bad, -1, 2}, {good, -1, 1}, {good, 4, 1}, {good, math.MaxInt, 1}, {good, math.MinInt, 1}} {
		for _, v := range append(slices.Collect(func(yield func(api.Val) bool) {
			for _, v := range insane {
				if !yield(v) {
					return
				}
			}
		}), api.Val{}) {
			if l, c, e := edits.Insert(x.l, x.i, -1, "\xff", v); l != nil || c != (edits.Cost{}) || e != x.e {
				t.Errorf("Insert %d: %v", i, e)
			}
			if l, c, e := edits.Replace(x.l, x.i, v); l != nil || c != (edits.Cost{}) || e != x.e {
				t.Errorf("Replace %d: %v", i, e)
			}
		}
		if l, e := edits.Delete(x.l, x.i); l != nil || e != x.e {
			t.Errorf("Delete %d: %v", i, e)
		}
	}
	for want, v := range insane {
		if l, c, e := edits.Insert(good, 1, 0, "", v); l != nil || c != (edits.Cost{}) || e != want {
			t.Error("Insert", want, e)
		}
		if l, c, e := edits.Replace(good, 0, v); l != nil || c != (edits.Cost{}) || e != want {
			t.Error("Replace", want, e)
		}
		if _, _, e := edits.Insert(good, 0, 0, "a", v); e != want {
			t.Error("the value is asked ahead of the key", e)
		}
		if _, _, e := edits.Insert(good, 0, 9, "a", v); e != api.ErrArg {
			t.Error("k is asked ahead of the value", e)
		}
		if _, _, e := edits.Insert(good, 2, 9, "a", v); e != api.ErrType {
			t.Error("the kind is asked ahead of k", e)
		}
	}
	if l, e := edits.Delete(good, 0); l != nil || e != api.ErrName {
		t.Error(e)
	}
}

// P12.2: Insert.
func TestInsertErrors(t *testing.T) {
	l := shredded(t, of(t, `{"a":[1],"b":2}`), 10)
	for i, x := range []struct {
		i, k int
		key  string
		e    api.Errno
	}{
		{0, 0, "c", 0}, {0, 2, "", 0}, {0, 0, "a", 7}, {0, 2, "b", 7}, {0, 0, "\xff", 1}, {0, 3, "c", 1}, {0, -1, "c", 1}, {0, 3, "a", 1}, {1, 0, "a", 0}, {1, 1, "\xff", 0}, {1, 2, "", 1}, {2, 0, "c", 8}, {3, 5, "c", 8}, {0, math.MaxInt, "c", 1}, {0, math.MinInt, "c", 1},
	} {
		got, c, e := edits.Insert(l, x.i, x.k, x.key, api.Val{})
		if e != x.e || (e == api.OK) != (len(got) == 5) || e != api.OK && (got != nil || c != edits.Cost{}) {
			t.Errorf("%d: %v %v", i, got, e)
		}
	}
	deep := api.Val{Kind: api.Arr}
	for range 63 {
		deep = api.Val{Kind: api.Arr, L: []api.Val{deep}}
	}
	if _, _, e := edits.Insert(shredded(t, of(t, "[]"), 1), 0, 0, "", deep); e != api.ErrDeep {
		t.Error(e)
	}
	if _, _, e := edits.Insert(shredded(t, of(t, "[[1]]"), 1), 1, 0, "", deep.L[0]); e != api.ErrDeep {
		t.Error(e)
	}
	many := shredded(t, api.Val{Kind: api.Arr, L: make([]api.Val, 4095)}, 1)
	if _, _, e := edits.Insert(many, 0, 7, "", api.Val{}); e != api.ErrLimit {
		t.Error(e)
	}
	if _, c, e := edits.Insert(many[:1:1], 0, 0, "", api.Val{Kind: api.Arr, L: make([]api.Val, 4094)}); e != api.OK || c != (edits.Cost{Laid: 4095}) {
		t.Error(c, e)
	}
}

func TestInsertNumbers(t *testing.T) {
	l := shredded(t, of(t, "[1]"), 10)
	for i, x := range []struct {
		l       []shred.Rec
		k       int
		v       string
		cost    edits.Cost
		numbers [][2]int
	}{
		{l, 1, "2", edits.Cost{Laid: 1}, [][2]int{{10, 40}, {20, 30}, {33, 36}}},
		{l, 0, "2", edits.Cost{Laid: 1}, [][2]int{{10, 40}, {13, 16}, {20, 30}}},
		{l, 1, "[2]", edits.Cost{Laid: 2}, [][2]int{{10, 40}, {20, 30}, {32, 38}, {34, 36}}},
		{l, 1, "[2,[]]", edits.Cost{Laid: 3}, [][2]int{{10, 40}, {20, 30}, {31, 36}, {32, 33}, {34, 35}}},
		{l, 1, "[1,2,3]", edits.Cost{Laid: 4}, [][2]int{{10, 40}, {20, 30}, {31, 38}, {32, 33}, {34, 35}, {36, 37}}},
		{l, 1, "[1,2,3,4]", edits.Cost{Laid: 5, Moved: 2}, [][2]int{{8, 112}, {16, 24}, {32, 104}, {40, 48}, {56, 64}, {72, 80}, {88, 96}}},
		{shredded(t, of(t, "[]"), 3), 0, "2", edits.Cost{Laid: 1}, [][2]int{{3, 6}, {4, 5}}},
		{shredded(t, of(t, "[]"), 2), 0, "2", edits.Cost{Laid: 1, Moved: 1}, [][2]int{{8, 32}, {16, 24}}},
		{[]shred.Rec{{Start: 0, End: 1 << 40, Kind: api.Arr}}, 0, "2", edits.Cost{Laid: 1}, [][2]int{{0, 1 << 40}, {1 << 40 / 3, 1 << 40 / 3 * 2}}},
	} {
		got, c, e := edits.Insert(x.l, 0, x.k, "", of(t, x.v))
		if e != api.OK || c != x.cost || !slices.Equal(numbers(got), x.numbers) {
			t.Errorf("%d: %v %v %v", i, numbers(got), c, e)
		}
	}
}

// P12.3: Delete and Replace.
func TestDelete(t *testing.T) {
	l := shredded(t, of(t, `{"a":[1,{"x":3}],"b":2}`), 10)
	for i, want := range map[int][]int{1: {0, 5}, 2: {0, 1, 3, 4, 5}, 3: {0, 1, 2, 5}, 4: {0, 1, 2, 3, 5}, 5: {0, 1, 2, 3, 4}} {
		got, e := edits.Delete(l, i)
		var kept []shred.Rec
		for _, k := range want {
			kept = append(kept, l[k])
		}
		if e != api.OK || !slices.Equal(got, kept) {
			t.Errorf("%d: %v %v", i, got, e)
		}
	}
}

func TestReplace(t *testing.T) {
	l := shredded(t, of(t, `[1,[2,3],{"a":4}]`), 10) // 10 to 140; 20 30; 40 90: 50 60, 70 80; 100 130: 110 120
	for i, x := range []struct {
		i       int
		v       string
		cost    edits.Cost
		numbers [][2]int
	}{
		{1, `"x"`, edits.Cost{Laid: 1}, [][2]int{{10, 140}, {20, 30}, {40, 90}, {50, 60}, {70, 80}, {100, 130}, {110, 120}}},
		{1, "[1]", edits.Cost{Laid: 2}, [][2]int{{10, 140}, {20, 30}, {22, 24}, {40, 90}, {50, 60}, {70, 80}, {100, 130}, {110, 120}}},
		{1, "[1,2,3,4]", edits.Cost{Laid: 5}, [][2]int{{10, 140}, {20, 30}, {21, 22}, {23, 24}, {25, 26}, {27, 28}, {40, 90}, {50, 60}, {70, 80}, {100, 130}, {110, 120}}},
		{1, "[1,2,3,4,5]", edits.Cost{Laid: 6, Moved: 6}, [][2]int{{8, 192}, {16, 104}, {24, 32}, {40, 48}, {56, 64}, {72, 80}, {88, 96}, {112, 152}, {120, 128}, {136, 144}, {160, 184}, {168, 176}}},
		{2, "null", edits.Cost{Laid: 1}, [][2]int{{10, 140}, {20, 30}, {40, 90}, {100, 130}, {110, 120}}},
		{6, "null", edits.Cost{Laid: 1}, [][2]int{{10, 140}, {20, 30}, {40, 90}, {50, 60}, {70, 80}, {100, 130}, {110, 120}}},
		{0, "[5]", edits.Cost{Laid: 2}, [][2]int{{10, 140}, {42, 74}}},
		{0, "[" + "1" + ",1,1,1,1,1,1,1,1,1,1,1,1,1,1,1,1,1,1,1,1,1,1,1,1,1,1,1,1,1,1,1,1,1,1,1,1,1,1,1,1,1,1,1,1,1,1,1,1,1,1,1,1,1,1,1,1,1,1,1,1,1,1,1,1,1]", edits.Cost{Laid: 67}, nil},
	} {
		got, c, e := edits.Replace(l, x.i, of(t, x.v))
		if x.cost.Laid == 67 {
			x.cost.Moved = 0
			if c != x.cost || got[0].Start != 8 {
				t.Errorf("%d: %v", i, c)
			}
			continue
		}
		if e != api.OK || c != x.cost || !slices.Equal(numbers(got), x.numbers) {
			t.Errorf("%d: %v %v %v", i, numbers(got), c, e)
		}
	}
	deep := api.Val{Kind: api.Arr}
	for range 63 {
		deep = api.Val{Kind: api.Arr, L: []api.Val{deep}}
	}
	if _, _, e := edits.Replace(l, 1, deep); e != api.ErrDeep {
		t.Error(e)
	}
	if _, _, e := edits.Replace(l, 0, deep); e != api.OK {
		t.Error(e)
	}
	if _, _, e := edits.Replace(l, 1, api.Val{Kind: api.Arr, L: make([]api.Val, 4090)}); e != api.ErrLimit {
		t.Error(e)
	}
}

// P12.2 and P12.3: an error of the value itself is ahead of what the whole would have.
func TestErrorOfTheValueIsFirst(t *testing.T) {
	v := api.Val{Kind: api.Obj, M: make([]api.Member, 2)} // a name twice
	whole := api.Val{Kind: api.Arr}
	for range 40 {
		v, whole = api.Val{Kind: api.Arr, L: []api.Val{v}}, api.Val{Kind: api.Arr, L: []api.Val{whole}}
	}
	l := shredded(t, whole, 10)
	if got, c, e := edits.Insert(l, 40, 0, "", v); got != nil || c != (edits.Cost{}) || e != api.ErrTwice {
		t.Error(e)
	}
	if got, c, e := edits.Replace(l, 40, v); got != nil || c != (edits.Cost{}) || e != api.ErrTwice {
		t.Error(e)
	}
	v.L[0] = api.Val{Kind: api.Arr}
	for range 30 {
		v = api.Val{Kind: api.Arr, L: []api.Val{v}}
	}
	if got, c, e := edits.Insert(l, 40, 0, "", v); got != nil || c != (edits.Cost{}) || e != api.ErrDeep {
		t.Error(e)
	}
	if got, c, e := edits.Replace(l, 40, v); got != nil || c != (edits.Cost{}) || e != api.ErrDeep {
		t.Error(e)
	}
}

// P12.4: Spread.
func TestSpread(t *testing.T) {
	r := rand.New(rand.NewSource(1))
	for range 300 {
		v := some(r, 3)
		l := shredded(t, v, 1+r.Intn(9))
		gap := 1 + r.Intn(1000)
		got, e := edits.Spread(l, gap)
		if e != api.OK || !slices.Equal(got, shredded(t, v, gap)) {
			t.Fatalf("%v: %v %v", v, got, e)
		}
	}
	l := shredded(t, api.Val{}, 5)
	for _, gap := range []int{0, -1, 1001, math.MinInt, math.MaxInt} {
		if got, e := edits.Spread(l, gap); got != nil || e != api.ErrArg {
			t.Error(gap, e)
		}
		if got, e := edits.Spread(nil, gap); got != nil || e != api.ErrForm {
			t.Error(gap, e)
		}
	}
}

// inserted is a value with x behind the k-th of what stands at a place.
func inserted(v api.Val, place []api.Step, k int, key string, x api.Val) api.Val {
	in, _ := value.At(v, place)
	if in.Kind == api.Obj {
		in.M = slices.Insert(slices.Clone(in.M), k, api.Member{Key: key, V: x})
	} else {
		in.L = slices.Insert(slices.Clone(in.L), k, x)
	}
	w, _ := value.Put(v, place, in)
	return w
}

// P12.5: what comes to be is sound, and the value with the change; what stays keeps its numbers, unless all are given anew.
func TestChanges(t *testing.T) {
	r := rand.New(rand.NewSource(2))
	for range 4000 {
		l := shredded(t, some(r, 3), 1+r.Intn(12))
		for range 6 {
			before := slices.Clone(l)
			v, _ := shred.Build(l)
			i, x := r.Intn(len(l)), some(r, 2)
			place := shred.Place(l, i)
			m := value.Count(x)
			var got []shred.Rec
			var want api.Val
			var e api.Errno
			cost := edits.Cost{Laid: m}
			gone := 0
			switch r.Intn(3) {
			case 0:
				k := r.Intn(len(shred.Kids(l, i)) + 1)
				key := []string{"", "a", "x", "y"}[r.Intn(4)]
				room := edits.Room(l, i, k)
				got, cost, e = edits.Insert(l, i, k, key, x)
				if e == api.OK && (cost.Moved == 0) != (room >= 2*m) {
					t.Fatal(cost, room)
				}
				want = inserted(v, place, k, key, x)
			case 1:
				gone = shred.Last(l, i) - i + 1
				got, e = edits.Delete(l, i)
				want, _ = value.Drop(v, place)
				cost = edits.Cost{}
				if e == api.OK && len(got) != len(l)-gone {
					t.Fatal(len(got))
				}
			case 2:
				gone = shred.Last(l, i) - i + 1
				free := l[i].End - l[i].Start + 1
				got, cost, e = edits.Replace(l, i, x)
				if e == api.OK && (cost.Moved == 0) != (free >= 2*m || gone == len(l)) {
					t.Fatal(cost, free)
				}
				want, _ = value.Put(v, place, x)
			}
			if !slices.Equal(l, before) {
				t.Fatal("changed")
			}
			if e != api.OK {
				continue
			}
			w, e := shred.Build(got)
			if e != api.OK || !reflect.DeepEqual(w, want) {
				t.Fatalf("%v: %v, not %v", v, w, want)
			}
			if cost.Moved != 0 && cost.Moved != len(l)-gone || cost.Laid > m {
				t.Fatal(cost)
			}
			if kept := common(l, got); cost.Moved == 0 && kept < len(l)-gone {
				t.Fatalf("%d of %d stay", kept, len(l)-gone)
			}
			l = got
		}
	}
}

// common is how many records of one list are in the other one too.
func common(a, b []shred.Rec) int {
	n := 0
	for _, r := range a {
		if slices.Contains(b, r) {
			n++
		}
	}
	return n
}
