package filter_test

import (
	"math"
	"reflect"
	"slices"
	"testing"

	"orangery/api"
	"orangery/filter"
)

func is(v api.Val) filter.Res      { return filter.Res{Is: true, V: v} }
func text(s string) filter.Res     { return is(api.Val{Kind: api.Str, S: s}) }
func truth(b bool) filter.Res      { return is(api.Val{Kind: api.Bool, B: b}) }
func list(l ...api.Val) filter.Res { return is(api.Val{Kind: api.Arr, L: l}) }
func num(neg bool, digits string, exp int) filter.Res {
	return is(api.Val{Kind: api.Num, N: api.Dec{Neg: neg, Digits: digits, Exp: exp}})
}
func object(keys ...string) filter.Res {
	v := api.Val{Kind: api.Obj}
	for _, k := range keys {
		v.M = append(v.M, api.Member{Key: k})
	}
	return is(v)
}

// P17.1: Compare.
func TestCompare(t *testing.T) {
	nothing := filter.Res{}
	odd := filter.Res{V: api.Val{Kind: api.Str, S: "x"}} // nothing, whatever its V is
	for i, x := range []struct {
		a, b        filter.Res
		same, below bool
		above       bool
	}{
		{nothing, nothing, true, false, false}, {nothing, odd, true, false, false}, {nothing, is(api.Val{}), false, false, false}, {odd, text("x"), false, false, false}, {odd, text("y"), false, false, false},
		{num(false, "1", 0), num(false, "1", 0), true, false, false}, {num(false, "1", 0), num(false, "2", 0), false, true, false}, {num(false, "1", 1), num(false, "2", 0), false, false, true}, {num(true, "1", 0), num(false, "", 0), false, true, false},
		{text("a"), text("b"), false, true, false}, {text("b"), text("a"), false, false, true}, {text(""), text(""), true, false, false}, {text("\uffff"), text("\U00010000"), false, true, false}, {num(false, "1", 0), text("2"), false, false, false}, {text("2"), num(false, "1", 0), false, false, false},
		{truth(false), truth(true), false, false, false}, {truth(true), truth(true), true, false, false}, {is(api.Val{}), is(api.Val{}), true, false, false}, {is(api.Val{}), truth(false), false, false, false},
		{list(), list(), true, false, false}, {list(api.Val{}), list(), false, false, false}, {object("a", "b"), object("b", "a"), true, false, false}, {object("a"), object("b"), false, false, false}, {list(), object(), false, false, false},
	} {
		for op, want := range map[string]bool{"==": x.same, "!=": !x.same, "<": x.below, ">": x.above, "<=": x.below || x.same, ">=": x.above || x.same, "": false, "=": false, "<>": false, "===": false, " ==": false} {
			if filter.Compare(x.a, op, x.b) != want {
				t.Errorf("%d: %s", i, op)
			}
		}
	}
}

// P17.2: Length, Count, Only.
func TestLengthCountOnly(t *testing.T) {
	for i, x := range []struct{ a, want filter.Res }{
		{text("a\u00e9\U0001F600\xff"), num(false, "4", 0)}, {text(""), num(false, "", 0)}, {list(), num(false, "", 0)}, {list(api.Val{Kind: api.Arr, L: make([]api.Val, 5)}, api.Val{}), num(false, "2", 0)}, {object("a", "b", "c"), num(false, "3", 0)}, {list(make([]api.Val, 10)...), num(false, "1", 1)},
		{is(api.Val{}), filter.Res{}}, {truth(true), filter.Res{}}, {num(false, "1", 0), filter.Res{}}, {filter.Res{}, filter.Res{}}, {filter.Res{V: api.Val{Kind: api.Str, S: "abc"}}, filter.Res{}}, {is(api.Val{Kind: 9}), filter.Res{}},
	} {
		if got := filter.Length(x.a); !reflect.DeepEqual(got, x.want) {
			t.Errorf("Length %d: %v", i, got)
		}
	}
	for n, want := range map[int]filter.Res{0: num(false, "", 0), 12: num(false, "12", 0), 4096: num(false, "4096", 0), -30: num(true, "3", 1), math.MinInt: num(true, "9223372036854775808", 0)} {
		if got := filter.Count(n); !reflect.DeepEqual(got, want) {
			t.Errorf("Count %d: %v", n, got)
		}
	}
	x, y := api.Val{Kind: api.Str, S: "x"}, api.Val{}
	if got := filter.Only([]api.Val{x}); !reflect.DeepEqual(got, is(x)) {
		t.Error(got)
	}
	for _, l := range [][]api.Val{nil, {}, {x, y}, {x, x}, {x, x, x}} {
		if got := filter.Only(l); !reflect.DeepEqual(got, filter.Res{}) {
			t.Error(got)
		}
	}
}

// P17.3: Match.
func TestMatch(t *testing.T) {
	for i, x := range []struct {
		a, b         filter.Res
		whole, parts bool
	}{
		{text("abc"), text("a.c"), true, true}, {text("xabcx"), text("a.c"), false, true}, {text("xyz"), text("a.c"), false, false}, {text(""), text(""), true, true}, {text("a"), text(""), false, true},
		{text("a"), text("("), false, false}, {text("("), text("("), false, false}, {text("a"), text("a**"), false, false}, {text("a"), text("\xff"), false, false}, {text("\xff"), text("."), true, true},
		{num(false, "1", 0), text("1"), false, false}, {text("1"), num(false, "1", 0), false, false}, {filter.Res{}, text(""), false, false}, {text(""), filter.Res{}, false, false}, {filter.Res{V: api.Val{Kind: api.Str}}, text(""), false, false}, {list(), text(""), false, false}, {is(api.Val{}), is(api.Val{}), false, false}, {is(api.Val{Kind: api.Obj, S: "a"}), text("a"), false, false},
	} {
		if filter.Match(x.a, x.b, true) != x.whole || filter.Match(x.a, x.b, false) != x.parts {
			t.Errorf("%d", i)
		}
	}
}

// places are a slice's as RFC 9535 tells them.
func places(n int, has [3]bool, s [3]int) []int {
	step := 1
	if has[2] {
		step = s[2]
	}
	start, end := 0, n
	if step < 0 {
		start, end = n-1, -n-1
	}
	if has[0] {
		start = s[0]
	}
	if has[1] {
		end = s[1]
	}
	normal := func(i int) int {
		if i >= 0 {
			return i
		}
		return n + i
	}
	start, end = normal(start), normal(end)
	var l []int
	if step > 0 {
		for i := min(max(start, 0), n); i < min(max(end, 0), n); i += step {
			l = append(l, i)
		}
	}
	if step < 0 {
		for i := min(max(start, -1), n-1); min(max(end, -1), n-1) < i; i += step {
			l = append(l, i)
		}
	}
	return l
}

// P17.4: Slice.
func TestSlice(t *testing.T) {
	for n := range 6 {
		for mask := range 8 {
			has := [3]bool{mask&1 > 0, mask&2 > 0, mask&4 > 0}
			for from := -7; from < 8; from++ {
				for to := -7; to < 8; to++ {
					for by := -7; by < 8; by++ {
						s := [3]int{from, to, by}
						if got := filter.Slice(n, has, s); !slices.Equal(got, places(n, has, s)) {
							t.Fatalf("%d %v %v: %v", n, has, s, got)
						}
					}
				}
			}
		}
	}
}

func TestSliceOfAnyNumbers(t *testing.T) {
	all := [3]bool{true, true, true}
	for i, x := range []struct {
		n    int
		has  [3]bool
		s    [3]int
		want []int
	}{
		{5, [3]bool{true, false, true}, [3]int{1, 0, 2}, []int{1, 3}}, {-1, [3]bool{}, [3]int{}, nil}, {math.MinInt, all, [3]int{0, 9, 1}, nil}, {0, [3]bool{false, false, true}, [3]int{0, 0, -1}, nil},
		{3, all, [3]int{0, math.MaxInt, math.MaxInt}, []int{0}}, {3, all, [3]int{1, math.MaxInt, math.MaxInt}, []int{1}}, {3, all, [3]int{math.MaxInt, math.MinInt, math.MinInt}, []int{2}}, {3, all, [3]int{math.MinInt, math.MaxInt, 1}, []int{0, 1, 2}}, {3, all, [3]int{math.MinInt, math.MaxInt, -1}, nil}, {3, all, [3]int{math.MaxInt, math.MinInt, -1}, []int{2, 1, 0}}, {3, all, [3]int{math.MaxInt, math.MinInt, 0}, nil}, {3, [3]bool{false, false, true}, [3]int{5, 5, math.MinInt}, []int{2}},
		{5000, [3]bool{true, false, false}, [3]int{4094, 0, 0}, []int{4094, 4095}}, {math.MaxInt, [3]bool{true, false, false}, [3]int{-2, 0, 0}, []int{4094, 4095}}, {math.MaxInt, [3]bool{false, false, true}, [3]int{0, 0, -4095}, []int{4095, 0}},
	} {
		if got := filter.Slice(x.n, x.has, x.s); !slices.Equal(got, x.want) {
			t.Errorf("%d: %v", i, got)
		}
	}
	if n := len(filter.Slice(math.MaxInt, [3]bool{}, [3]int{})); n != 4096 {
		t.Error(n)
	}
}

// P17.5: of values that can be told one of <, ==, > is so, and each op has its opposite.
func TestOpposites(t *testing.T) {
	nums := []filter.Res{num(true, "1", 5), num(true, "15", -1), num(false, "", 0), num(false, "1", -5), num(false, "1", 0), num(false, "12", 7)}
	texts := []filter.Res{text(""), text("a"), text("ab"), text("b"), text("\u00e9"), text("\U00010000")}
	for _, l := range [][]filter.Res{nums, texts} {
		for i, a := range l {
			for k, b := range l {
				below, same, above := filter.Compare(a, "<", b), filter.Compare(a, "==", b), filter.Compare(a, ">", b)
				if below != (i < k) || same != (i == k) || above != (i > k) {
					t.Errorf("%v %v", a, b)
				}
				if filter.Compare(a, "<=", b) == above || filter.Compare(a, ">=", b) == below || filter.Compare(a, "!=", b) == same {
					t.Errorf("%v %v", a, b)
				}
			}
		}
	}
}
