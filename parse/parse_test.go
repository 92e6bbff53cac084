package parse_test

import (
	"encoding/json"
	"math"
	"math/rand"
	"reflect"
	"strings"
	"testing"

	"orangery/api"
	"orangery/parse"
	"orangery/value"
)

func num(neg bool, digits string, exp int) api.Val {
	return api.Val{Kind: api.Num, N: api.Dec{Neg: neg, Digits: digits, Exp: exp}}
}
func text(s string) api.Val          { return api.Val{Kind: api.Str, S: s} }
func list(l ...api.Val) api.Val      { return api.Val{Kind: api.Arr, L: l} }
func object(m ...api.Member) api.Val { return api.Val{Kind: api.Obj, M: m} }

// P4.1: White.
func TestWhite(t *testing.T) {
	b := []byte("a \t\n\r\v b ")
	for at, want := range map[int]int{math.MinInt: 0, -1: 0, 0: 0, 1: 5, 2: 5, 4: 5, 5: 5, 6: 7, 7: 7, 8: 9, 9: 9, 10: 9, math.MaxInt: 9} {
		if n := parse.White(b, at); n != want {
			t.Errorf("%d: %d", at, n)
		}
	}
	if parse.White(nil, 0) != 0 || parse.White(nil, 5) != 0 || parse.White([]byte("\u00a0\x00"), 0) != 0 {
		t.Error("nothing, and what is not white")
	}
}

// P4.2: One.
func TestOne(t *testing.T) {
	for _, x := range []struct {
		s       string
		at, end int
		v       api.Val
		e       api.Errno
	}{
		{" null ", 0, 5, api.Val{}, 0}, {"true", 0, 4, api.Val{Kind: api.Bool, B: true}, 0}, {"[false]", 1, 6, api.Val{Kind: api.Bool}, 0}, {"truex", 0, 4, api.Val{Kind: api.Bool, B: true}, 0}, {"null,1", 5, 6, num(false, "1", 0), 0}, {"1", -5, 1, num(false, "1", 0), 0},
		{"-1.50e2 ", 0, 7, num(true, "15", 1), 0}, {"0]", 0, 1, num(false, "", 0), 0}, {`"a\"b"c`, 0, 6, text(`a"b`), 0}, {`"\u00e9\uD83D\uDE00\/\b"`, 0, 24, text("\u00e9\U0001F600/\b"), 0}, {`""`, 0, 2, text(""), 0}, {"\"\u20ac\x7f\"", 0, 6, text("\u20ac\x7f"), 0},
		{"[]", 0, 2, list(), 0}, {"[ \n]x", 0, 4, list(), 0}, {"{ }", 0, 3, object(), 0}, {` [ 1 , [ ] , "" ] `, 0, 17, list(num(false, "1", 0), list(), text("")), 0},
		{` { "b" : 1 , "a":[null] } `, 0, 25, object(api.Member{Key: "b", V: num(false, "1", 0)}, api.Member{Key: "a", V: list(api.Val{})}), 0}, {`{"":{"":""}}`, 0, 12, object(api.Member{V: object(api.Member{V: text("")})}), 0},

		{"", 0, 0, api.Val{}, 2}, {"  ", 0, 2, api.Val{}, 2}, {"1", 1, 1, api.Val{}, 2}, {"1", math.MaxInt, 1, api.Val{}, 2}, {" x", 0, 1, api.Val{}, 2}, {"tru", 0, 0, api.Val{}, 2}, {" nul1", 0, 1, api.Val{}, 2}, {"fals\x00", 0, 0, api.Val{}, 2}, {"True", 0, 0, api.Val{}, 2}, {"\x00", 0, 0, api.Val{}, 2}, {"\xef\xbb\xbf1", 0, 0, api.Val{}, 2}, {"+1", 0, 0, api.Val{}, 2}, {".5", 0, 0, api.Val{}, 2}, {"'a'", 0, 0, api.Val{}, 2}, {"]", 0, 0, api.Val{}, 2}, {",", 0, 0, api.Val{}, 2},
		{" -", 0, 1, api.Val{}, 2}, {"[01]", 0, 1, api.Val{}, 2}, {"[1.]", 0, 1, api.Val{}, 2}, {"[1-2]", 0, 1, api.Val{}, 2}, {"[1e400]", 0, 1, api.Val{}, 4}, {" " + strings.Repeat("1", 1001), 0, 1, api.Val{}, 4}, {"1ee", 0, 0, api.Val{}, 2},
		{`"abc`, 0, 4, api.Val{}, 2}, {`"`, 0, 1, api.Val{}, 2}, {"\"a\nb\"", 0, 2, api.Val{}, 2}, {"\"a\x00\"", 0, 2, api.Val{}, 2}, {"\"a\x1f\"", 0, 2, api.Val{}, 2}, {"\"a\xffb\"", 0, 2, api.Val{}, 2}, {"\"\xe2\x82\"", 0, 1, api.Val{}, 2}, {`"ab\x"`, 0, 3, api.Val{}, 2}, {`"ab\`, 0, 3, api.Val{}, 2}, {`"\u12"`, 0, 1, api.Val{}, 2}, {`"a\ud800"`, 0, 2, api.Val{}, 2}, {`"a\udc00"`, 0, 2, api.Val{}, 2}, {`"\ud800\u0041"`, 0, 1, api.Val{}, 2},
		{"[", 0, 1, api.Val{}, 2}, {"[1", 0, 2, api.Val{}, 2}, {"[1 2]", 0, 3, api.Val{}, 2}, {"[1,]", 0, 3, api.Val{}, 2}, {"[,1]", 0, 1, api.Val{}, 2}, {"[1}", 0, 2, api.Val{}, 2}, {"[1,,2]", 0, 3, api.Val{}, 2}, {"[ ", 0, 2, api.Val{}, 2},
		{"{", 0, 1, api.Val{}, 2}, {"{1:2}", 0, 1, api.Val{}, 2}, {`{"a"}`, 0, 4, api.Val{}, 2}, {`{"a" `, 0, 5, api.Val{}, 2}, {`{"a":}`, 0, 5, api.Val{}, 2}, {`{"a":1,}`, 0, 7, api.Val{}, 2}, {`{"a":1 "b":2}`, 0, 7, api.Val{}, 2}, {`{"a":1]`, 0, 6, api.Val{}, 2}, {`{"a":1`, 0, 6, api.Val{}, 2}, {`{"a`, 0, 3, api.Val{}, 2}, {`{'a':1}`, 0, 1, api.Val{}, 2}, {`{"a"=1}`, 0, 4, api.Val{}, 2}, {"{null:1}", 0, 1, api.Val{}, 2},
		{`{"a":1, "a":2}`, 0, 8, api.Val{}, 7}, {`{"a":1,"\u0061":x}`, 0, 7, api.Val{}, 7}, {`{"a":1,"a"`, 0, 7, api.Val{}, 7}, {`{"a":1,"a`, 0, 9, api.Val{}, 2}, {`[{"a":1},{"a":1}]`, 0, 17, list(object(api.Member{Key: "a", V: num(false, "1", 0)}), object(api.Member{Key: "a", V: num(false, "1", 0)})), 0}, {`{"a":{"a":1}}`, 0, 13, object(api.Member{Key: "a", V: object(api.Member{Key: "a", V: num(false, "1", 0)})}), 0},
	} {
		v, end, e := parse.One([]byte(x.s), x.at)
		if e != x.e || end != x.end || !reflect.DeepEqual(v, x.v) {
			t.Errorf("%.40q: %v %d %v", x.s, v, end, e)
		}
	}
	if _, end, e := parse.One(nil, 3); end != 0 || e != api.ErrForm {
		t.Error("nil")
	}
}

func TestOneOfMuchAndDeep(t *testing.T) {
	deep := func(n int, inner string) string { return strings.Repeat("[", n) + inner + strings.Repeat("]", n) }
	many := func(n int) string { return strings.Repeat("0,", n) }
	for i, x := range []struct {
		s   string
		e   api.Errno
		end int
	}{
		{deep(64, ""), 0, 128}, {deep(64, "1"), 0, 129}, {deep(65, ""), 3, 64}, {deep(64, "{}"), 3, 64}, {deep(63, "{}"), 0, 128}, {strings.Repeat(`{"":`, 64) + "{}", 3, 256}, {strings.Repeat("[", 100000), 3, 64}, {deep(64, "x"), 2, 64}, {strings.Repeat("[", 64), 2, 64},
		{"[" + many(4094) + "0]", 0, 8191}, {"[" + many(4095) + "0]", 4, 8191}, {"[" + many(4095) + "]", 2, 8191}, {"[" + many(4095) + "x]", 2, 8191}, {"[" + many(4095) + " [", 4, 8192}, {"[" + many(4095) + "-x", 4, 8191}, {"[" + many(4095) + "\"\xff", 4, 8191},
		{"[" + many(4095-64) + deep(65, ""), 3, 1 + 2*(4095-64) + 63}, {"[" + many(4095-63) + deep(65, ""), 4, 1 + 2*(4095-63) + 63}, {"[" + many(4094) + `{"a":1`, 4, 1 + 2*4094 + 5},
	} {
		if v, end, e := parse.One([]byte(x.s), 0); e != x.e || end != x.end || e != api.OK && !reflect.DeepEqual(v, api.Val{}) {
			t.Errorf("%d: %d %v", i, end, e)
		}
	}
}

// P4.3: Value.
func TestValue(t *testing.T) {
	long := `"` + strings.Repeat("x", api.MaxText-2) + `"`
	for i, x := range []struct {
		s  string
		v  api.Val
		e  api.Errno
		at int
	}{
		{" [1, {\"a\": null}]\n", list(num(false, "1", 0), object(api.Member{Key: "a"})), 0, 18}, {"1", num(false, "1", 0), 0, 1}, {"[1,]", api.Val{}, 2, 3}, {"1 2", api.Val{}, 2, 2}, {"truex", api.Val{}, 2, 4}, {"[] \t]", api.Val{}, 2, 4}, {"", api.Val{}, 2, 0}, {"  ", api.Val{}, 2, 2}, {`{"a":1,"a":2}`, api.Val{}, 7, 7}, {"1\x00", api.Val{}, 2, 1},
		{long, text(long[1 : len(long)-1]), 0, api.MaxText}, {long + " ", api.Val{}, 4, 0}, {strings.Repeat("x", api.MaxText+1), api.Val{}, 4, 0}, {strings.Repeat(" ", api.MaxText-1) + "1", num(false, "1", 0), 0, api.MaxText},
	} {
		v, e, at := parse.Value([]byte(x.s))
		if e != x.e || at != x.at || !reflect.DeepEqual(v, x.v) {
			t.Errorf("%d: %d %v", i, at, e)
		}
	}
	if v, e, at := parse.Value(nil); e != api.ErrForm || at != 0 || !reflect.DeepEqual(v, api.Val{}) {
		t.Error("nil")
	}
}

// plain is a value as encoding/json tells it, with numbers as texts.
func plain(v api.Val) any {
	switch v.Kind {
	case api.Bool:
		return v.B
	case api.Num:
		f, _ := json.Number(v.N.Digits + "0").Float64()
		f = f / 10 * math.Pow(10, float64(v.N.Exp))
		if v.N.Neg {
			f = -f
		}
		return f
	case api.Str:
		return v.S
	case api.Arr:
		l := []any{}
		for _, x := range v.L {
			l = append(l, plain(x))
		}
		return l
	case api.Obj:
		m := map[string]any{}
		for _, x := range v.M {
			m[x.Key] = plain(x.V)
		}
		return m
	}
	return nil
}

// TestAgainstAnother holds all short texts of some pieces against another reader.
func TestAgainstAnother(t *testing.T) {
	pieces := []string{"[", "]", "{", "}", ",", ":", `"a"`, `"b"`, "1", "-2", "0", "null", "true", " ", "\"", "\\", "x"}
	var all func(s string, left int)
	all = func(s string, left int) {
		v, e, at := parse.Value([]byte(s))
		if json.Valid([]byte(s)) {
			var want any
			json.Unmarshal([]byte(s), &want)
			if e != api.ErrTwice && (e != api.OK || !reflect.DeepEqual(plain(v), want)) {
				t.Fatalf("%q: %v %v", s, v, e)
			}
		} else if e == api.OK || e == api.ErrForm && (at < 0 || at > len(s)) {
			t.Fatalf("%q: %v %d", s, e, at)
		}
		if e == api.ErrForm && at < len(s) && strings.Contains(" \t", s[at:at+1]) {
			t.Fatalf("%q: %d is white", s, at)
		}
		for _, p := range pieces {
			if left > 0 {
				all(s+p, left-1)
			}
		}
	}
	all("", 4)
	source := rand.New(rand.NewSource(1))
	for range 30000 {
		s := ""
		for range 5 + source.Intn(12) {
			s += pieces[source.Intn(len(pieces))]
		}
		all(s, 0)
	}
}

// P4.4: what is parsed may be; white between its parts says nothing.
func TestParsedIsSane(t *testing.T) {
	source := rand.New(rand.NewSource(2))
	for range 3000 {
		parts := written(source, 4)
		tight, _, _ := parse.Value([]byte(strings.Join(parts, "")))
		wide := ""
		for _, p := range parts {
			wide += strings.Repeat(" ", source.Intn(2)) + []string{"", "\n", "\t\r"}[source.Intn(3)] + p
		}
		v, e, at := parse.Value([]byte(wide + " "))
		if e == api.ErrTwice {
			continue
		}
		if e != api.OK || at != len(wide)+1 || value.Sane(v) != api.OK || !reflect.DeepEqual(v, tight) {
			t.Fatalf("%q: %v %v", wide, v, e)
		}
	}
}

// written are the parts of some value's text.
func written(source *rand.Rand, depth int) []string {
	between := func(open, end string, part func() []string) []string {
		out := []string{open}
		for i := range source.Intn(4) {
			if i > 0 {
				out = append(out, ",")
			}
			out = append(out, part()...)
		}
		return append(out, end)
	}
	kind := source.Intn(7)
	if depth == 0 {
		kind = source.Intn(5)
	}
	switch kind {
	case 5:
		return between("[", "]", func() []string { return written(source, depth-1) })
	case 6:
		return between("{", "}", func() []string {
			return append([]string{[]string{`"a"`, `""`, `"\n"`, `"b"`, `"c"`}[source.Intn(5)], ":"}, written(source, depth-1)...)
		})
	}
	return []string{[]string{"null", "true", "-1.5e3", `"\u0041b"`, "0"}[kind]}
}

// P1, W3: bytes of any kind are answered.
func TestBytesOfAnyKind(t *testing.T) {
	source := rand.New(rand.NewSource(3))
	signs := "[]{},:\"\\u0aetfn1-. \xff\xc3\xa9\x00"
	for range 100000 {
		b := make([]byte, source.Intn(12))
		for i := range b {
			b[i] = signs[source.Intn(len(signs))]
		}
		v, e, at := parse.Value(b)
		if at < 0 || at > len(b) || (e == api.OK) != (value.Sane(v) == api.OK && at == len(b) && e == api.OK) {
			t.Fatalf("%q: %v %v %d", b, v, e, at)
		}
		parse.One(b, source.Intn(20)-4)
	}
}
