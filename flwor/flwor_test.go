package flwor_test

import (
	"math"
	"math/rand"
	"reflect"
	"slices"
	"strconv"
	"strings"
	"testing"

	"orangery/api"
	"orangery/flwor"
	"orangery/parse"
	"orangery/path"
	"orangery/plan"
	"orangery/print"
	"orangery/shred"
	"orangery/streams"
	"orangery/walk"
)

func parsed(t *testing.T, s string) flwor.Query {
	t.Helper()
	q, e := flwor.Parse(s)
	if e != api.OK {
		t.Fatalf("%s: %v", s, e)
	}
	return q
}

// here is a text's query of @.
func here(t *testing.T, s string) path.Query {
	t.Helper()
	return expression(t, s).Q
}

func expression(t *testing.T, s string) path.Expr {
	t.Helper()
	q, e := path.Parse("$[?" + s + "]")
	if e != api.OK {
		t.Fatalf("%s: %v", s, e)
	}
	return q.L[0].L[0].F[0]
}

func root(t *testing.T, s string) path.Query {
	t.Helper()
	q, e := path.Parse(s)
	if e != api.OK {
		t.Fatalf("%s: %v", s, e)
	}
	return q
}

// index is one of texts, by their IDs.
func index(t *testing.T, docs map[int]string) streams.Index {
	t.Helper()
	x := streams.New()
	for id, s := range docs {
		v, e, _ := parse.Value([]byte(s))
		if e != api.OK {
			t.Fatal(s, e)
		}
		l, _ := shred.Shred(v, 3)
		if x, e = streams.Add(x, streams.Doc{ID: id, L: l}); e != api.OK {
			t.Fatal(e)
		}
	}
	return x
}

// told are values as texts.
func told(l []api.Val) string {
	var out []string
	for _, v := range l {
		s, _ := print.Value(v)
		out = append(out, s)
	}
	return strings.Join(out, " ")
}

// alike: do two queries print the same, and have the same fields but for lists that are nil or not?
func alike(a, b flwor.Query) bool {
	return flwor.Print(a) == flwor.Print(b) && a.Most == b.Most && a.Down == b.Down && a.Plain == b.Plain && len(a.Where) == len(b.Where) && len(a.By) == len(b.By) && len(a.Ret) == len(b.Ret)
}

// P22.1 and P22.2: what is a query, and how it is printed.
func TestParseAndPrint(t *testing.T) {
	for s, x := range map[string]struct {
		q     flwor.Query
		print string
	}{
		"for $ return @": {flwor.Query{For: root(t, "$"), Most: -1, Plain: true, Ret: []flwor.Field{{Q: here(t, "@")}}}, "for $ return @"},
		"\n for $.l[*]  where @.k > 1 order  by @.k descending limit 2 return {'k': @.k}\t": {flwor.Query{For: root(t, "$.l[*]"), Where: []path.Expr{expression(t, "@.k>1")}, By: []path.Query{here(t, "@.k")}, Down: true, Most: 2, Ret: []flwor.Field{{"k", here(t, "@.k")}}}, "for $['l'][*] where @['k'] > 1 order by @['k'] descending limit 2 return {'k': @['k']}"},
		"for $..a order by @ ascending return {}":                                           {flwor.Query{For: root(t, "$..a"), By: []path.Query{here(t, "@")}, Most: -1}, "for $..['a'] order by @ return {}"},
		"for $ order by @[0] limit 0 return @.*":                                            {flwor.Query{For: root(t, "$"), By: []path.Query{here(t, "@[0]")}, Most: 0, Plain: true, Ret: []flwor.Field{{Q: here(t, "@.*")}}}, "for $ order by @[0] limit 0 return @[*]"},
		"for $ limit 4096 return {\"a'b\":@..x,'':@[1:2,'}'],'c':@[?@]}":                    {flwor.Query{For: root(t, "$"), Most: 4096, Ret: []flwor.Field{{"a'b", here(t, "@..x")}, {"", here(t, "@[1:2,'}']")}, {"c", here(t, "@[?@]")}}}, "for $ limit 4096 return {'a\\'b': @..['x'], '': @[1:2,'}'], 'c': @[?@]}"},
		"for $.for.where..order[?@.return] where @.limit&&$.by return @.return":             {flwor.Query{For: root(t, "$.for.where..order[?@.return]"), Where: []path.Expr{expression(t, "@.limit&&$.by")}, Most: -1, Plain: true, Ret: []flwor.Field{{Q: here(t, "@.return")}}}, "for $['for']['where']..['order'][?@['return']] where @['limit'] && $['by'] return @['return']"},
		"for $ where !(@.a||match(@.b,'c')) return (@.x)":                                   {flwor.Query{For: root(t, "$"), Where: []path.Expr{expression(t, "!(@.a||match(@.b,'c'))")}, Most: -1, Plain: true, Ret: []flwor.Field{{Q: here(t, "@.x")}}}, "for $ where !(@['a'] || match(@['b'],'c')) return @['x']"},
		"for $['for'] where @=='limit' return {'return':@}":                                 {flwor.Query{For: root(t, "$.for"), Where: []path.Expr{expression(t, "@=='limit'")}, Most: -1, Ret: []flwor.Field{{"return", here(t, "@")}}}, "for $['for'] where @ == 'limit' return {'return': @}"},
	} {
		q, e := flwor.Parse(s)
		if e != api.OK || !reflect.DeepEqual(q, x.q) {
			t.Errorf("%s: %v %v", s, q, e)
		}
		if got := flwor.Print(q); got != x.print {
			t.Errorf("%s: %s", s, got)
		}
		if again, e := flwor.Parse(flwor.Print(q)); e != api.OK || !reflect.DeepEqual(again, q) || !flwor.Sane(q) {
			t.Errorf("%s again: %v %v", s, again, e)
		}
	}
}

func TestParseErrors(t *testing.T) {
	long := strings.Repeat("[0]", 300)
	deep := strings.Repeat("(", 33) + "@" + strings.Repeat(")", 33)
	for i, x := range []struct {
		s string
		e api.Errno
	}{
		{"", 2}, {" ", 2}, {"$", 2}, {"for", 2}, {"for $", 2}, {"return @", 2}, {"for return @", 2}, {"for $ return", 2}, {"x for $ return @", 2}, {"$ for $ return @", 2}, {"For $ return @", 2}, {"where @ for $ return @", 2}, {"for $ for $ return @", 2}, {"for $ return @ return @", 2}, {"for $ return @ limit 1", 2}, {"for $ return @ where @", 2}, {"for $ return for", 2}, {"for $ return return", 2},
		{"for $ where return @", 2}, {"for $ where @ where @ return @", 2}, {"for $ limit 1 where @ return @", 2}, {"for $ limit 1 order by @ return @", 2}, {"for $ order by @ where @ return @", 2}, {"for $ order return @", 2}, {"for $ by @ return @", 2}, {"for $ order x by @ return @", 2}, {"for $ order by return @", 2}, {"for $ by order @ return @", 2}, {"for $ order by @ ascending descending return @", 2}, {"for $ order by @ ascending ascending return @", 2}, {"for $ order by @ ascending x return @", 2}, {"for $ ascending return @", 2}, {"for $ where @ descending return @", 2}, {"for $ order by ascending return @", 2}, {"for $ order by @ limit 1 ascending return @", 2}, {"for $ order by @ order by @ return @", 2}, {"for $ limit return @", 2}, {"for $ limit 1 limit 1 return @", 2},
		{"for $ # return @", 2}, {"for $ limit 1e400 return", 4}, {"for $ return 'a", 2}, {strings.Repeat(" ", 8193), 4},
		{"for @ return @", 2}, {"for $. return @", 2}, {"for $[?1] return @", 8}, {"for $" + long + long + " return @", 4}, {"for $[?" + deep + "] return @", 3}, {"for $ $ return @", 2}, {"for ($) return @", 2},
		{"for $ where 1 return @", 8}, {"for $ where @.a==@.* return @", 8}, {"for $ where length(@) return @", 8}, {"for $ where @.a] return @", 2}, {"for $ where @.a,1 return @", 2}, {"for $ where @.a][?@.b return @", 2}, {"for $ where @.a]..[?@.b return @", 2}, {"for $ where @.a].b[?@ return @", 2}, {"for $ where @.a, ?@.b return @", 2}, {"for $ where " + deep + " return @", 3}, {"for $ where @" + long + long + " return @", 4}, {"for $ where (@ return @)", 2}, {"for $ where foo return @", 2}, {"for $ where @.a == limit return @", 2},
		{"for $ order by $ return @", 2}, {"for $ order by 1 return @", 8}, {"for $ order by @.a==1 return @", 2}, {"for $ order by !@ return @", 2}, {"for $ order by @.* return @", 8}, {"for $ order by @..a return @", 8}, {"for $ order by @['a','b'] return @", 8}, {"for $ order by @[?@] return @", 8}, {"for $ order by @,1 return @", 2}, {"for $ order by length(@) return @", 8}, {"for $ order by @.a @.b return @", 2}, {"for $ order by match(@,'a') return @", 2},
		{"for $ limit 4097 return @", 2}, {"for $ limit -1 return @", 2}, {"for $ limit -0 return @", 2}, {"for $ limit 1.0 return @", 2}, {"for $ limit 1e1 return @", 2}, {"for $ limit 01 return @", 2}, {"for $ limit a return @", 2}, {"for $ limit '1' return @", 2}, {"for $ limit 1 1 return @", 2}, {"for $ limit + 1 return @", 2}, {"for $ limit 99999999999999999999 return @", 2}, {"for $ limit @ return @", 2},
		{"for $ return $", 2}, {"for $ return 1", 8}, {"for $ return @.a==1", 2}, {"for $ return @ @", 2}, {"for $ return @,1", 2}, {"for $ return @.", 2}, {"for $ return 'a'", 8}, {"for $ return [@]", 2}, {"for $ return (@)]", 2},
		{"for $ return {", 2}, {"for $ return }", 2}, {"for $ return {} x", 2}, {"for $ return {}}", 2}, {"for $ return {,}", 2}, {"for $ return {'a'}", 2}, {"for $ return {'a':}", 2}, {"for $ return {'a' @}", 2}, {"for $ return {a:@}", 2}, {"for $ return {1:@}", 2}, {"for $ return {'a':@,}", 2}, {"for $ return {'a':@ 'b':@}", 2}, {"for $ return {'a':@", 2}, {"for $ return {'a':@,", 2}, {"for $ return {'a':@} x", 2}, {"for $ return {'a':@}}", 2}, {"for $ return {'a':$}", 2}, {"for $ return {'a':@.a==1}", 2}, {"for $ return {'a':1}", 8}, {"for $ return {'a':@]}", 2}, {"for $ return {'a':@][?@}", 2}, {"for $ return {'a':(@}", 2}, {"for $ return {'a':=@}", 2},
		{"for $ return {'a':@,'a':@}", 7}, {"for $ return {'a':@,\"a\":@.b}", 7}, {"for $ return {'a':@,'\\u0061':@}", 7}, {"for $ return {'a':@,'a':1}", 8}, {"for $ return {'a':@,'a':@} x", 7}, {"for $ return {'a':@,'a':$}", 2}, {"for $ return {'a':1,'a':@", 8}, {"for $ return {'a':1", 8}, {"for $ return {'a':@,'b':@,'a':@", 7}, {"for $ return {'a':@,'b':@,'a' @", 2},
		// part by part, in the text's order
		{"for $[?1] where @.a,1 return @", 8}, {"for $. where 1 return @", 2}, {"for $ where 1 limit x return @", 8}, {"for $ limit x return 1", 2}, {"for $ order by 1 limit x return @", 8}, {"for $ order by @.* limit x return @", 8}, {"for $ limit 4097 return {'a':@,'a':@}", 2}, {"for $[?1] order return @", 2}, {"for $[?1] return", 2},
		// no words: what stands in parentheses, brackets and braces; signs of whatever kind open and close
		{"for $[?1] where (by) return @", 8}, {"for $[?1] where @[by] return @", 8}, {"for $[?1] return {by}", 8}, {"for $[?1] where (@.a] return @", 8}, {"for $[?1) where @ return @", 2}, {"for $[?1] where @) return @", 2}, {"for $[?1] where {@) return @", 8}, {"for $[?1] where [@} return @", 8}, {"for $[?1] where (by} return @", 8}, {"for $[?1] where )limit( return @", 8},
		// what stands in a Text is no sign
		{"for $ return '{'", 8}, {"for $ return {@", 2}, {"for $ return {'a'", 2}, {"for $ return {1", 2}, {"for $ return {'}'", 2}, {"for $ return {'a'':'@}", 2}, {"for $ return {'a':@'}'", 2}, {"for $ return {'a':@','b':@}", 2}, {"for $[?1] where '(' return @", 8}, {"for $[?1] where ')' return @", 8}, {"for '.' where @ return @", 2},
	} {
		q, e := flwor.Parse(x.s)
		if e != x.e || !reflect.DeepEqual(q, flwor.Query{}) {
			t.Errorf("%d %.60s: %v", i, x.s, e)
		}
	}
}

// P22.3: Sane.
func TestSane(t *testing.T) {
	good := func() flwor.Query {
		return parsed(t, "for $.a where @.b order by @.c descending limit 3 return {'x':@.x,'y':@..y}")
	}
	if !flwor.Sane(good()) || !flwor.Sane(flwor.Query{}) {
		t.Error("good")
	}
	for i, change := range []func(q *flwor.Query){
		func(q *flwor.Query) { q.For.Rel = true }, func(q *flwor.Query) { q.For.L = []path.Seg{{}} }, func(q *flwor.Query) { q.Where = append(q.Where, q.Where[0]) }, func(q *flwor.Query) { q.Where[0] = path.Expr{} }, func(q *flwor.Query) { q.Where[0] = path.Expr{What: path.Lit} }, func(q *flwor.Query) { q.Where[0].Op = "x" },
		func(q *flwor.Query) { q.By = append(q.By, q.By[0]) }, func(q *flwor.Query) { q.By[0].Rel = false }, func(q *flwor.Query) { q.By[0] = here(t, "@.*") }, func(q *flwor.Query) { q.By[0] = here(t, "@..a") }, func(q *flwor.Query) { q.By = nil }, func(q *flwor.Query) { q.By[0].L[0].L[0].Name = "\xff" },
		func(q *flwor.Query) { q.Most = -2 }, func(q *flwor.Query) { q.Most = 4097 }, func(q *flwor.Query) { q.Most = math.MaxInt }, func(q *flwor.Query) { q.Most = math.MinInt },
		func(q *flwor.Query) { q.Ret[0].Q.Rel = false }, func(q *flwor.Query) { q.Ret[1].Name = "x" }, func(q *flwor.Query) { q.Ret[0].Name = "\xff" }, func(q *flwor.Query) { q.Ret[0].Q.L[0].L = nil }, func(q *flwor.Query) { q.Plain = true }, func(q *flwor.Query) { q.Plain, q.Ret = true, q.Ret[:1] }, func(q *flwor.Query) { q.Plain, q.Ret = true, nil }, func(q *flwor.Query) { q.Ret[1].Q.L = make([]path.Seg, 600) },
	} {
		q := good()
		change(&q)
		if flwor.Sane(q) {
			t.Errorf("%d", i)
		}
		flwor.Print(q)
		if l, e := flwor.Run(streams.New(), q, plan.Walk); l != nil || e != api.ErrArg {
			t.Errorf("%d: %v", i, e)
		}
	}
	for i, change := range []func(q *flwor.Query){
		func(q *flwor.Query) { q.Where = nil }, func(q *flwor.Query) { q.By, q.Down = nil, false }, func(q *flwor.Query) { q.Most = -1 }, func(q *flwor.Query) { q.Most = 0 }, func(q *flwor.Query) { q.Ret = nil }, func(q *flwor.Query) { q.Ret[0].Name = "" }, func(q *flwor.Query) { q.Plain, q.Ret = true, []flwor.Field{{Q: here(t, "@")}} },
	} {
		q := good()
		change(&q)
		if again, e := flwor.Parse(flwor.Print(q)); !flwor.Sane(q) || e != api.OK || !alike(q, again) {
			t.Errorf("%d: %v", i, e)
		}
	}
}

// P22.4: Run.
func TestRun(t *testing.T) {
	x := index(t, map[int]string{
		1: `{"m":2,"l":[{"k":3,"n":"c"},{"k":1,"n":"a"},{"n":"none"},{"k":"s","n":"t"},{"k":2,"n":"b"}]}`,
		2: `{"m":1,"l":[{"k":2,"n":"B","p":[1,2]},{"k":null,"n":"z"},{"k":[9],"n":"arr"},{"k":{},"n":"obj"},{"k":[1],"n":"arr2"},{"k":true,"n":"y"}]}`,
	})
	for s, want := range map[string]string{
		"for $.l[*] return @.n":                                                           `"c" "a" "none" "t" "b" "B" "z" "arr" "obj" "arr2" "y"`,
		"for $.l[*] order by @.k return @.n":                                              `"none" "z" "y" "a" "b" "B" "c" "t" "arr" "arr2" "obj"`,
		"for $.l[*] order by @.k ascending return @.n":                                    `"none" "z" "y" "a" "b" "B" "c" "t" "arr" "arr2" "obj"`,
		"for $.l[*] order by @.k descending return @.n":                                   `"obj" "arr" "arr2" "t" "c" "b" "B" "a" "y" "z" "none"`,
		"for $.l[*] where @.k > 1 order by @.k descending limit 2 return {'k': @.k}":      `{"k":3} {"k":2}`,
		"for $.l[*] where @.k==$.m return @.n":                                            `"b"`,
		"for $.l[*] where @.k>$.m return @.n":                                             `"c" "B"`,
		"for $.l[*] where !@.k return @":                                                  `{"n":"none"}`,
		"for $.l[*] limit 3 return @.n":                                                   `"c" "a" "none"`,
		"for $.l[*] limit 0 return @.n":                                                   "",
		"for $.l[*] where @.p return @.p[*]":                                              "1 2",
		"for $.l[*] where @.k==2 return {'n':@.n,'p':@.p[*],'q':@.p[0],'z':@.zz,'l':@.p}": `{"n":"b"} {"l":[1,2],"n":"B","q":1}`,
		"for $.m return {'x':@}":                                                          `{"x":2} {"x":1}`,
		"for $ order by @.m return @.m":                                                   "1 2",
		"for $ return {}":                                                                 "{} {}",
		"for $.zz return @":                                                               "",
		"for $ return @[?@==$.m]":                                                         "2 1",
		"for $..n where match(@,'[a-c]') order by @ descending limit 2 return @":          `"c" "b"`,
		"for $ order by @.zz descending return @.m":                                       "2 1",
	} {
		q := parsed(t, s)
		for _, p := range plan.Plans(q.For) {
			if l, e := flwor.Run(x, q, p); e != api.OK || told(l) != want {
				t.Errorf("%s by %d: %s %v", s, p, told(l), e)
			}
		}
		for _, p := range []int{0, 4, -1} {
			if l, e := flwor.Run(x, q, p); l != nil || e != api.ErrArg {
				t.Error(e)
			}
		}
	}
	if l, e := flwor.Run(x, parsed(t, "for $.l[*] return @"), plan.Joins); l != nil || e != api.ErrArg {
		t.Error(e)
	}
}

func TestRunLimit(t *testing.T) {
	docs := map[int]string{}
	for id := range 3 {
		docs[id] = "[" + strings.Repeat("1,", 2047) + "1]"
	}
	two, three := index(t, map[int]string{1: docs[0], 2: docs[1]}), index(t, docs)
	for s, want := range map[string]int{
		"for $[*] return @": 4096, "for $[*] return {}": 4096, "for $[*] return {'a':@}": 4096, "for $ return @[*]": 4096, "for $ return @[*,*,0]": -1, "for $ return @[*,*]": -1, "for $ limit 1 return @[*,*]": 4096, "for $ limit 1 return @[*,*,0]": -1, "for $ where @[*,*,0] return @": -1, "for $ limit 0 return @[*,*,0]": 0, "for $ return {'a':@[*,*,0]}": -1, "for $ where 1==1||@[*,*,0] return {}": 2,
	} {
		q := parsed(t, s)
		l, e := flwor.Run(two, q, plan.Walk)
		if want < 0 && (e != api.ErrLimit || l != nil) || want >= 0 && (e != api.OK || len(l) != want) {
			t.Errorf("%s: %d %v", s, len(l), e)
		}
	}
	for s, want := range map[string]int{"for $[*] return @": -1, "for $[*] limit 4096 return @": 4096, "for $[*] return {}": -1, "for $[*] where @==2 return @": 0, "for $[*] order by @ limit 7 return {}": 7, "for $[*] return @.a": 0} {
		l, e := flwor.Run(three, parsed(t, s), plan.Walk)
		if want < 0 && (e != api.ErrLimit || l != nil) || want >= 0 && (e != api.OK || len(l) != want) {
			t.Errorf("%s: %d %v", s, len(l), e)
		}
	}
}

// P22.5: Rank.
func TestRank(t *testing.T) {
	rising := []string{"null", "false", "true", "-1", "0.5", "2", `""`, `"a"`, `"b"`, "[]", "{}"}
	for i, a := range rising {
		for k, b := range rising {
			x, _, _ := parse.Value([]byte(a))
			y, _, _ := parse.Value([]byte(b))
			if n := flwor.Rank(x, y); n != min(1, max(-1, i-k)) {
				t.Error(a, b, n)
			}
		}
	}
	one := api.Val{Kind: api.Arr, L: []api.Val{{}}}
	if flwor.Rank(one, api.Val{Kind: api.Arr}) != 0 || flwor.Rank(api.Val{Kind: api.Obj, M: []api.Member{{}}}, api.Val{Kind: api.Obj}) != 0 || flwor.Rank(api.Val{Kind: 9}, api.Val{Kind: 9}) != 0 || flwor.Rank(api.Val{Kind: math.MinInt}, api.Val{Kind: math.MaxInt}) != -1 {
		t.Error("all others")
	}
}

// simple is Run by another way, by the walk of each document.
func simple(x streams.Index, q flwor.Query) []api.Val {
	type hit struct{ v, root api.Val }
	var hits []hit
	for _, d := range x.Docs {
		v, _ := shred.Build(d.L)
		l, _ := walk.Run(q.For, v)
		for _, n := range l {
			ok := true
			for _, w := range q.Where {
				ok, _ = walk.True(w, v, n.V)
			}
			if ok {
				hits = append(hits, hit{n.V, v})
			}
		}
	}
	for _, by := range q.By {
		for i := range hits { // one by one, to its place
			for k := i; k > 0; k-- {
				a, _ := walk.Here(by, hits[k-1].root, hits[k-1].v)
				b, _ := walk.Here(by, hits[k].root, hits[k].v)
				n := len(a) - len(b)
				if len(a) == 1 && len(b) == 1 {
					n = flwor.Rank(a[0], b[0])
				}
				if !q.Down && n <= 0 || q.Down && n >= 0 {
					break
				}
				hits[k-1], hits[k] = hits[k], hits[k-1]
			}
		}
	}
	var out []api.Val
	for i, h := range hits {
		if q.Most >= 0 && i >= q.Most {
			break
		}
		v := api.Val{Kind: api.Obj}
		for _, f := range q.Ret {
			l, _ := walk.Here(f.Q, h.root, h.v)
			if q.Plain {
				out = append(out, l...)
			} else if len(l) == 1 {
				v.M = append(v.M, api.Member{Key: f.Name, V: l[0]})
			}
		}
		if !q.Plain {
			out = append(out, v)
		}
	}
	return out
}

// some is a text of a source.
func some(r *rand.Rand, depth int) string {
	var l []string
	switch k := r.Intn(7); {
	case k < 2 && depth > 0:
		for range r.Intn(4) {
			l = append(l, some(r, depth-1))
		}
		return "[" + strings.Join(l, ",") + "]"
	case k < 6 && depth > 0:
		for _, i := range r.Perm(3)[:r.Intn(4)] {
			l = append(l, strconv.Quote("abc"[i:i+1])+":"+some(r, depth-1))
		}
		return "{" + strings.Join(l, ",") + "}"
	}
	return []string{"1", "2", `"a"`, "null", "true"}[r.Intn(5)]
}

// P22.6, W2: what is parsed is sane, and the same again from its Print; all plans tell the same.
func TestAllPlansTellTheSame(t *testing.T) {
	r := rand.New(rand.NewSource(1))
	pick := func(l ...string) string { return l[r.Intn(len(l))] }
	total := 0
	for range 4000 {
		s := "for " + pick("$", "$.a", "$..a", "$.a..b", "$..*", "$[*]", "$.b[?@.a==1]", "$[?@==1]", "$..[?@.b]")
		s += pick("", " where @.a", " where @.b > 1 || !@.a", " where $.a == @", " where count(@..*)<3")
		s += pick("", " order by @", " order by @.a ascending", " order by @.b descending", " order by @[0].a descending")
		s += pick("", " limit 3", " limit 0", " limit 100")
		s += " return " + pick("@", "@.*", "@..a", "{}", "{'x':@.a,'y':@[0]}", "{'': @, 'return': @..b}")
		q := parsed(t, s)
		if again, e := flwor.Parse(flwor.Print(q)); e != api.OK || !reflect.DeepEqual(again, q) || !flwor.Sane(q) {
			t.Fatalf("%s: %s", s, flwor.Print(q))
		}
		docs := map[int]string{}
		for range r.Intn(4) {
			docs[r.Intn(9)-4] = some(r, 4)
		}
		x := index(t, docs)
		want := simple(x, q)
		total += len(want)
		for _, p := range plan.Plans(q.For) {
			if l, e := flwor.Run(x, q, p); e != api.OK || told(l) != told(want) || len(l) != len(want) {
				t.Fatalf("%s by %d of %v: %s, not %s", s, p, docs, told(l), told(want))
			}
		}
	}
	if total < 1500 {
		t.Error(total)
	}
}

// P1, W3: texts of any kind are answered.
func TestAnyText(t *testing.T) {
	r := rand.New(rand.NewSource(2))
	words := []string{"for", "where", "order", "by", "ascending", "descending", "limit", "return", "$", "@", ".", "..", "a", "[", "]", "{", "}", "(", ")", "'x'", ":", ",", "1", "==", "$.a", "@.b"}
	good := 0
	for range 300000 {
		l := []string{"for", "$"}
		for range r.Intn(6) {
			l = append(l, words[r.Intn(len(words))])
		}
		l = append(l, "return")
		for range 1 + r.Intn(4) {
			l = append(l, words[r.Intn(len(words))])
		}
		s := strings.Join(l, " ")
		q, e := flwor.Parse(s)
		if e != api.OK {
			if !reflect.DeepEqual(q, flwor.Query{}) || !slices.Contains([]api.Errno{api.ErrForm, api.ErrType, api.ErrTwice}, e) {
				t.Fatalf("%s: %v", s, e)
			}
			continue
		}
		good++
		if again, e := flwor.Parse(flwor.Print(q)); e != api.OK || !reflect.DeepEqual(again, q) || !flwor.Sane(q) {
			t.Fatalf("%s: %s", s, flwor.Print(q))
		}
	}
	if good < 500 {
		t.Error(good)
	}
}
