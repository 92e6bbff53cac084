package print_test

import (
	"math"
	"math/rand"
	"strings"
	"testing"

	"orangery/api"
	"orangery/parse"
	"orangery/print"
	"orangery/value"
)

// of is a text's value.
func of(t *testing.T, s string) api.Val {
	t.Helper()
	v, e, at := parse.Value([]byte(s))
	if e != api.OK {
		t.Fatalf("%q: %v %d", s, e, at)
	}
	return v
}

func insane() map[api.Errno]api.Val {
	deep := api.Val{}
	for range 66 {
		deep = api.Val{Kind: api.Arr, L: []api.Val{deep}}
	}
	return map[api.Errno]api.Val{
		api.ErrArg:   {Kind: 6},
		api.ErrTwice: {Kind: api.Obj, M: []api.Member{{Key: "a"}, {Key: "a"}}},
		api.ErrDeep:  deep,
		api.ErrLimit: {Kind: api.Arr, L: make([]api.Val, 4096)},
	}
}

// P5.1: Value.
func TestValue(t *testing.T) {
	for s, want := range map[string]string{
		" null ": "null", "true": "true", "false": "false", "-1.50e2": "-150", "1e300": "1e+300", "0.1": "0.1", `"\u0041\u00e9\n\/\u0001"`: "\"A\u00e9\\n/\\u0001\"", "[ ]": "[]", "{ }": "{}", "[ [ ] , { } , 1 ]": "[[],{},1]",
		`{"b": [1, 2], "a": null}`: `{"a":null,"b":[1,2]}`, `{"b":{"z":1,"y":{"\"":2,"":3}},"":0}`: `{"":0,"b":{"y":{"":3,"\"":2},"z":1}}`, `{"\ud83d\ude00":1,"\uffff":2}`: "{\"\uffff\":2,\"\U0001F600\":1}",
	} {
		if got, e := print.Value(of(t, s)); got != want || e != api.OK {
			t.Errorf("%s: %s %v", s, got, e)
		}
	}
	for want, v := range insane() {
		if got, e := print.Value(v); got != "" || e != want {
			t.Errorf("%v: %q %v", want, got, e)
		}
	}
}

func TestValueOfMuch(t *testing.T) {
	text := func(n int) api.Val { return api.Val{Kind: api.Str, S: strings.Repeat("x", n)} }
	if s, e := print.Value(text(api.MaxText - 2)); len(s) != api.MaxText || e != api.OK {
		t.Error(len(s), e)
	}
	for _, v := range []api.Val{text(api.MaxText - 1), {Kind: api.Arr, L: []api.Val{text(api.MaxText - 3)}}, {Kind: api.Str, S: strings.Repeat("\x00", 11000)}} {
		if s, e := print.Value(v); s != "" || e != api.ErrLimit {
			t.Error(len(s), e)
		}
	}
}

// P5.2: Pretty.
func TestPretty(t *testing.T) {
	v := of(t, `{"b":[1,[],{}],"a":{"c":"x,y:[z]"},"d":{}}`)
	for by, want := range map[int]string{
		2: "{\n  \"a\": {\n    \"c\": \"x,y:[z]\"\n  },\n  \"b\": [\n    1,\n    [],\n    {}\n  ],\n  \"d\": {}\n}",
		0: "{\n\"a\": {\n\"c\": \"x,y:[z]\"\n},\n\"b\": [\n1,\n[],\n{}\n],\n\"d\": {}\n}",
	} {
		if s, e := print.Pretty(v, by); s != want || e != api.OK {
			t.Errorf("%d: %s %v", by, s, e)
		}
	}
	if s, e := print.Pretty(of(t, "[1]"), 16); s != "[\n"+strings.Repeat(" ", 16)+"1\n]" || e != api.OK {
		t.Errorf("%q %v", s, e)
	}
	for s, want := range map[string]string{"[]": "[]", "{}": "{}", "1": "1", `"a"`: `"a"`} {
		if got, _ := print.Pretty(of(t, s), 3); got != want {
			t.Errorf("%q", got)
		}
	}
	for _, by := range []int{-1, 17, math.MinInt, math.MaxInt} {
		if s, e := print.Pretty(v, by); s != "" || e != api.ErrArg {
			t.Errorf("%d: %q %v", by, s, e)
		}
		for _, v := range insane() {
			if s, e := print.Pretty(v, by); s != "" || e != api.ErrArg {
				t.Errorf("%d: %q %v", by, s, e)
			}
		}
	}
	for want, v := range insane() {
		if s, e := print.Pretty(v, 1); s != "" || e != want {
			t.Errorf("%v: %q %v", want, s, e)
		}
	}
}

func TestPrettyOfMuch(t *testing.T) {
	l := api.Val{Kind: api.Arr, L: make([]api.Val, 4095)} // 5 bytes a part, and an LF, and blanks
	if s, e := print.Pretty(l, 10); len(s) != 2+4095*16 || e != api.OK {
		t.Error(len(s), e)
	}
	if s, e := print.Pretty(l, 11); s != "" || e != api.ErrLimit {
		t.Error(len(s), e)
	}
}

// P5.3: Size and Key.
func TestSize(t *testing.T) {
	for s, n := range map[string]int{"null": 4, "[1, 2]": 5, `{"a" : "\u0001"}`: 14, "1e2": 3} {
		if got := print.Size(of(t, s)); got != n {
			t.Errorf("%s: %d", s, got)
		}
	}
	if n := print.Size(api.Val{Kind: api.Str, S: strings.Repeat("\x01", 100000)}); n != 600002 {
		t.Error(n)
	}
	for _, v := range insane() {
		if n := print.Size(v); n != 0 {
			t.Error(n)
		}
	}
}

func TestKey(t *testing.T) {
	texts := []string{"null", "0", `"0"`, "[]", "{}", "[null]", `{"a":1,"b":[2]}`, `{"b":[2],"a":1}`, `{"a":1,"b":[3]}`, "1", "1.0", "10e-1", "-0", `[{"x":1,"y":2}]`, `[{"y":2,"x":1}]`, "true", "false", `"a"`, `"\u0061"`, `{"a":{}}`, `{"a":[]}`}
	for _, a := range texts {
		for _, b := range texts {
			x, e := print.Key(of(t, a))
			y, f := print.Key(of(t, b))
			if e != api.OK || f != api.OK || (x == y) != value.Same(of(t, a), of(t, b)) {
				t.Errorf("%s %s: %s %s", a, b, x, y)
			}
		}
	}
	for want, v := range insane() {
		if s, e := print.Key(v); s != "" || e != want {
			t.Errorf("%v: %q %v", want, s, e)
		}
	}
}

// some is a value of a source.
func some(source *rand.Rand, depth int) api.Val {
	texts := []string{"", "a", "b", "\u00e9", "\U00010000", "\uffff", "\"\\/\x00\n\x7f", "[,]"}
	kind := source.Intn(6)
	if depth == 0 {
		kind = source.Intn(4)
	}
	v := api.Val{Kind: kind}
	switch kind {
	case api.Bool:
		v.B = source.Intn(2) == 0
	case api.Num:
		v.N = api.Dec{Neg: source.Intn(2) == 0, Digits: []string{"1", "15", "123456789"}[source.Intn(3)], Exp: source.Intn(60) - 30}
	case api.Str:
		v.S = texts[source.Intn(len(texts))]
	case api.Arr:
		for range source.Intn(4) {
			v.L = append(v.L, some(source, depth-1))
		}
	case api.Obj:
		for _, k := range source.Perm(len(texts))[:source.Intn(5)] {
			v.M = append(v.M, api.Member{Key: texts[k], V: some(source, depth-1)})
		}
	}
	return v
}

// P5.4: what is written is parsed to the value in order, and its text is its own again.
func TestWrittenIsParsed(t *testing.T) {
	source := rand.New(rand.NewSource(1))
	for range 5000 {
		v := some(source, 4)
		s, e := print.Value(v)
		w := of(t, s)
		again, _ := print.Value(w)
		if e != api.OK || again != s || !value.Same(v, w) || !sameOrder(value.Sorted(v), w) || print.Size(v) != len(s) {
			t.Fatalf("%v: %s", v, s)
		}
		for by := range 4 {
			lines, e := print.Pretty(v, by)
			if back := of(t, lines); e != api.OK || !sameOrder(back, w) {
				t.Fatalf("%v: %s", v, lines)
			}
		}
	}
}

func sameOrder(a, b api.Val) bool {
	if !value.Same(a, b) {
		return false
	}
	for i := range a.L {
		if !sameOrder(a.L[i], b.L[i]) {
			return false
		}
	}
	for i := range a.M {
		if a.M[i].Key != b.M[i].Key || !sameOrder(a.M[i].V, b.M[i].V) {
			return false
		}
	}
	return true
}
