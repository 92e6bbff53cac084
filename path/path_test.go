package path_test

import (
	"math"
	"math/rand"
	"reflect"
	"strings"
	"testing"

	"orangery/api"
	"orangery/path"
)

func name(s string) path.Sel                { return path.Sel{What: path.Name, Name: s} }
func index(n int) path.Sel                  { return path.Sel{What: path.Index, At: n} }
func wild() path.Sel                        { return path.Sel{What: path.Wild} }
func seg(l ...path.Sel) path.Seg            { return path.Seg{L: l} }
func deep(l ...path.Sel) path.Seg           { return path.Seg{Deep: true, L: l} }
func root(l ...path.Seg) path.Query         { return path.Query{L: l} }
func here(l ...path.Seg) path.Query         { return path.Query{Rel: true, L: l} }
func filter(x path.Expr) path.Sel           { return path.Sel{What: path.Filter, F: []path.Expr{x}} }
func of(q path.Query) path.Expr             { return path.Expr{What: path.Path, Q: q} }
func text(s string) path.Expr               { return lit(api.Val{Kind: api.Str, S: s}) }
func lit(v api.Val) path.Expr               { return path.Expr{What: path.Lit, V: v} }
func number(digits string) path.Expr        { return lit(api.Val{Kind: api.Num, N: api.Dec{Digits: digits}}) }
func in(what int, l ...path.Expr) path.Expr { return path.Expr{What: what, L: l} }
func cmp(a path.Expr, op string, b path.Expr) path.Expr {
	return path.Expr{What: path.Cmp, Op: op, L: []path.Expr{a, b}}
}
func call(op string, l ...path.Expr) path.Expr { return path.Expr{What: path.Call, Op: op, L: l} }
func slice(has [3]bool, s [3]int) path.Sel     { return path.Sel{What: path.Slice, Has: has, S: s} }

var a, b, c = of(here(seg(name("a")))), of(here(seg(name("b")))), of(here(seg(name("c"))))

// asking is a query of one filter.
func asking(x path.Expr) path.Query { return root(seg(filter(x))) }

// alike: are two trees the same, whether their lists are nil or not?
func alike(a, b path.Query) bool {
	x, y := plain(a), plain(b)
	return reflect.DeepEqual(x, y)
}

func plain(q path.Query) path.Query {
	out := path.Query{Rel: q.Rel}
	for _, s := range q.L {
		t := path.Seg{Deep: s.Deep}
		for _, x := range s.L {
			x.F = plainExprs(x.F)
			t.L = append(t.L, x)
		}
		out.L = append(out.L, t)
	}
	return out
}

func plainExprs(l []path.Expr) []path.Expr {
	var out []path.Expr
	for _, x := range l {
		x.L, x.Q = plainExprs(x.L), plain(x.Q)
		out = append(out, x)
	}
	return out
}

// P16.1 and P16.4: what is a query, and how it is printed.
func TestParseAndPrint(t *testing.T) {
	yes := lit(api.Val{Kind: api.Bool, B: true})
	for s, x := range map[string]struct {
		q     path.Query
		print string
	}{
		"$":                   {root(), "$"},
		" $ . a [ 1 ] ":       {root(seg(name("a")), seg(index(1))), "$['a'][1]"},
		"$.a[1]":              {root(seg(name("a")), seg(index(1))), "$['a'][1]"},
		"$..a..*..[*,'b']":    {root(deep(name("a")), deep(wild()), deep(wild(), name("b"))), "$..['a']..[*]..[*,'b']"},
		"$.*[*].true.null":    {root(seg(wild()), seg(wild()), seg(name("true")), seg(name("null"))), "$[*][*]['true']['null']"},
		"$.\u00e9_1":          {root(seg(name("\u00e9_1"))), "$['\u00e9_1']"},
		`$["a'b",'\u0001\\']`: {root(seg(name("a'b"), name("\x01\\"))), `$['a\'b','\u0001\\']`},
		"$[0,-1,9007199254740991,-9007199254740991]":                 {root(seg(index(0), index(-1), index(1<<53-1), index(-1<<53+1))), "$[0,-1,9007199254740991,-9007199254740991]"},
		"$[:,1:,:2,1:2,::,1::,:2:,::3,1:2:3,-1:-2:-3,0:0:0, 1 : 2 ]": {root(seg(slice([3]bool{}, [3]int{}), slice([3]bool{true}, [3]int{1}), slice([3]bool{false, true}, [3]int{0, 2}), slice([3]bool{true, true}, [3]int{1, 2}), slice([3]bool{}, [3]int{}), slice([3]bool{true}, [3]int{1}), slice([3]bool{false, true}, [3]int{0, 2}), slice([3]bool{false, false, true}, [3]int{0, 0, 3}), slice([3]bool{true, true, true}, [3]int{1, 2, 3}), slice([3]bool{true, true, true}, [3]int{-1, -2, -3}), slice([3]bool{true, true, true}, [3]int{}), slice([3]bool{true, true}, [3]int{1, 2}))), "$[:,1:,:2,1:2,:,1:,:2,::3,1:2:3,-1:-2:-3,0:0:0,1:2]"},
		"$[?@.a]":                      {asking(a), "$[?@['a']]"},
		"$[?$]":                        {asking(of(root())), "$[?$]"},
		"$[?@,?@.a,1]":                 {root(seg(filter(of(here())), filter(a), index(1))), "$[?@,?@['a'],1]"},
		"$[?@.a||@.b&&@.c]":            {asking(in(path.Or, a, in(path.And, b, c))), "$[?@['a'] || @['b'] && @['c']]"},
		"$[?(@.a||@.b)&&@.c]":          {asking(in(path.And, in(path.Or, a, b), c)), "$[?(@['a'] || @['b']) && @['c']]"},
		"$[?@.a&&(@.b&&@.c)]":          {asking(in(path.And, a, in(path.And, b, c))), "$[?@['a'] && (@['b'] && @['c'])]"},
		"$[?@.a||(@.b||@.c)]":          {asking(in(path.Or, a, in(path.Or, b, c))), "$[?@['a'] || (@['b'] || @['c'])]"},
		"$[?@.a||(@.b&&@.c)]":          {asking(in(path.Or, a, in(path.And, b, c))), "$[?@['a'] || @['b'] && @['c']]"},
		"$[?@.a&&@.b&&@.c]":            {asking(in(path.And, a, b, c)), "$[?@['a'] && @['b'] && @['c']]"},
		"$[?((@.a))]":                  {asking(a), "$[?@['a']]"},
		"$[?!@.a]":                     {asking(in(path.Not, a)), "$[?!@['a']]"},
		"$[?!(@.a)]":                   {asking(in(path.Not, a)), "$[?!@['a']]"},
		"$[?!(@.a==1)]":                {asking(in(path.Not, cmp(a, "==", number("1")))), "$[?!(@['a'] == 1)]"},
		"$[?!(!@.a)]":                  {asking(in(path.Not, in(path.Not, a))), "$[?!(!@['a'])]"},
		"$[?!(@.a||@.b)]":              {asking(in(path.Not, in(path.Or, a, b))), "$[?!(@['a'] || @['b'])]"},
		"$[?!match(@.a,'x')]":          {asking(in(path.Not, call("match", a, text("x")))), "$[?!match(@['a'],'x')]"},
		"$[?1==1.0]":                   {asking(cmp(number("1"), "==", number("1"))), "$[?1 == 1]"},
		"$[?@.a<-1.5e300]":             {asking(cmp(a, "<", lit(api.Val{Kind: api.Num, N: api.Dec{Neg: true, Digits: "15", Exp: 299}}))), "$[?@['a'] < -1.5e+300]"},
		"$[?-0!='a\"']":                {asking(cmp(lit(api.Val{Kind: api.Num}), "!=", text("a\""))), "$[?0 != 'a\"']"},
		"$[?true<=null]":               {asking(cmp(yes, "<=", lit(api.Val{}))), "$[?true <= null]"},
		"$[?false>=@]":                 {asking(cmp(lit(api.Val{Kind: api.Bool}), ">=", of(here()))), "$[?false >= @]"},
		"$[?$.a[0]>@['b']]":            {asking(cmp(of(root(seg(name("a")), seg(index(0)))), ">", b)), "$[?$['a'][0] > @['b']]"},
		"$[?length(@.a)==count(@..*)]": {asking(cmp(call("length", a), "==", call("count", of(here(deep(wild())))))), "$[?length(@['a']) == count(@..[*])]"},
		"$[?search(value(@..a),'b')]":  {asking(call("search", call("value", of(here(deep(name("a"))))), text("b"))), "$[?search(value(@..['a']),'b')]"},
		"$[?@[?@.a]]":                  {asking(of(here(seg(filter(a))))), "$[?@[?@['a']]]"},
		"$[?length(length('a'))==1]":   {asking(cmp(call("length", call("length", text("a"))), "==", number("1"))), "$[?length(length('a')) == 1]"},
	} {
		q, e := path.Parse(s)
		if e != api.OK || !alike(q, x.q) {
			t.Errorf("%s: %v %v", s, q, e)
		}
		if got := path.Print(q); got != x.print {
			t.Errorf("%s: %s", s, got)
		}
		if !path.Sane(q) {
			t.Errorf("%s: not sane", s)
		}
		if again, e := path.Parse(path.Print(q)); e != api.OK || !alike(again, q) {
			t.Errorf("%s: %v", s, again)
		}
	}
}

func TestParseForm(t *testing.T) {
	for _, s := range []string{
		"", " ", "a", "@", "@.a", ".a", "$a", "$$", "$ a", "$.", "$.1", "$.'a'", "$.$", "$..", "$...a", "$..1", "$. .a", "$.a.", "$.[1]", "$[", "$[]", "$]", "$[1", "$[1]]", "$[1,]", "$[,1]", "$[1 2]", "$[a]", "$[true]", "$[$]", "$[1.0]", "$[1e1]", "$[-0]", "$[+1]", "$[9007199254740992]", "$[-9007199254740992]", "$[99999999999999999999]", "$[1:9007199254740992]", "$[1:2:3:4]", "$[1:2.5]", "$[1:a]", "$[:=1]", "$['a'", "$.a b", "$.-1", "$(1)", "$..[]", "$..[1", "$.*a", "$.a*", "$ = 1",
		// What stands in a Text is no sign.
		"'$'", "'$'.a", "\"$\"", "$'.'a", "$'..'a", "$.'*'", "$'[1]'", "$'['1]", "$[1']'", "$[1','2]", "$[1':'2]", "$['?'@]", "$[?'@'.a]", "$[?@.a'=='1]", "$[?@.a'&&'@.b]", "$[?@.a'||'@.b]", "$[?'!'@.a]", "$[?'('@.a')']", "$[?length'('@)==1]",
		"$[?]", "$[?,1]", "$[?@", "$[?a]", "$[?foo(@)]", "$[?@.a==]", "$[?==1]", "$[?@.a==1==2]", "$[?@.a=1]", "$[?@.a===1]", "$[?@.a<>1]", "$[?(@.a]", "$[?@.a)]", "$[?()]", "$[?@.a&&]", "$[?&&@.a]", "$[?@.a||]", "$[?@.a && || @.b]", "$[?!]", "$[?!!@.a]", "$[?!1]", "$[?!'a']", "$[?!true]", "$[?!@.a==1]", "$[?(@.a)==1]", "$[?1==(@.a)]", "$[?@.a @.b]", "$[?length]", "$[?length(]", "$[?length(@.a]==1]", "$[?length(@.a,)==1]", "$[?length(,)==1]", "$[?length(@.a==1)]", "$[?length((@.a))==1]", "$[?length(!@.a)]", "$[?Length(@)==1]", "$[?true(@)]", "$[?length.a]", "$[?@.a == foo]", "$[?@.a,]", "$[?@.a;1]", "$[?@.a:1]", "$[?1:2]", "$[?{}]", "$[?@.a.length()]", "$[?@.a == [1]]", "$[?@ in $]", "$[?null.a]", "$[?@.a + 1 == 2]",
	} {
		if q, e := path.Parse(s); e != api.ErrForm || !reflect.DeepEqual(q, path.Query{}) {
			t.Errorf("%s: %v %v", s, q, e)
		}
	}
}

// P16.2: ErrType.
func TestParseType(t *testing.T) {
	for _, s := range []string{
		"$[?1]", "$[?'a']", "$[?true]", "$[?null]", "$[?(1)]", "$[?length(@)]", "$[?count(@)]", "$[?value(@)]", "$[?@.a&&1]", "$[?@.a||length(@)]", "$[?!length(@.a)]", "$[?!(1)]", "$[?!(count(@))]",
		"$[?@.*==1]", "$[?1==@..a]", "$[?@['a','b']==1]", "$[?@[1:2]==1]", "$[?@[?@.a]==1]", "$[?$..*<1]", "$[?match(@.a,'b')==true]", "$[?1<search(@,'a')]",
		"$[?length()==1]", "$[?length(@.a,@.b)==1]", "$[?length(@.*)==1]", "$[?length(match(@.a,'b'))==1]", "$[?count()==1]", "$[?count(1)==1]", "$[?count('a')==1]", "$[?count(@,@)==1]", "$[?count(length(@))==1]", "$[?count(value(@))==1]", "$[?value()==1]", "$[?value(1)==1]", "$[?value(@.a,@.b)==1]", "$[?value(value(@))==1]", "$[?match()]", "$[?match(@.a)]", "$[?match(@.a,'b','c')]", "$[?match(@.*,'b')]", "$[?search(@.a,@..b)]", "$[?search(match(@,'a'),'b')]", "$[?search(@.a)]",
		"$[?@[?1]]", "$[?count(@[?1])==1]", "$[?length($[?'x'])==1]", "$.a[0][1,?@.a,?1]", "$..[?length(@)]", "$[?match(@.a,@[?@.b])]", "$[?(@.a || @.b && (1))]",
	} {
		if q, e := path.Parse(s); e != api.ErrType || !reflect.DeepEqual(q, path.Query{}) {
			t.Errorf("%s: %v %v", s, q, e)
		}
	}
}

// P16.3: which error is told.
func TestParseOrder(t *testing.T) {
	parens := func(n int, s string) string { return strings.Repeat("(", n) + s + strings.Repeat(")", n) }
	nested := func(n int) string { return "$" + strings.Repeat("[?@", n) + strings.Repeat("]", n) }
	calls := func(n int) string {
		return "$[?" + strings.Repeat("length(", n) + "@" + strings.Repeat(")", n) + "==1]"
	}
	segs := func(n int) string { return "$" + strings.Repeat("[0]", n) }
	for i, x := range []struct {
		s string
		e api.Errno
	}{
		{strings.Repeat("#", 8193), 4}, {"$ 1e400 #", 4}, {"$ # 1e400", 2}, {"$[?1 'x]", 2}, {"$ a 1e400", 4}, {"$['\xff']", 2},
		{"$[?" + parens(31, "@") + "]", 0}, {"$[?" + parens(32, "@") + "]", 3}, {"$[?" + parens(32, "1") + "]", 3}, {"$[?" + parens(32, "@") + "]]", 2}, {"$[?" + parens(31, "1") + "]", 8}, {"$[?!" + parens(31, "@") + "]", 0}, {"$[?!" + parens(32, "@") + "]", 3}, {"$[?" + parens(4000, "@") + "]", 3}, {"$[?" + parens(4000, "1") + "]", 3}, {"$[?" + strings.Repeat("(", 8000) + "]", 2}, {"$[?" + parens(31, "@") + "||" + parens(31, "@") + "]", 0},
		{nested(32), 0}, {nested(33), 3}, {calls(31), 0}, {calls(32), 3}, {"$[?" + parens(20, "@[?"+parens(10, "@")+"]") + "]", 0}, {"$[?" + parens(20, "@[?"+parens(11, "@")+"]") + "]", 3}, {"$[?" + parens(20, "length("+strings.Repeat("length(", 10)+"@"+strings.Repeat(")", 11)+"==1") + "]", 0}, {"$[?" + parens(20, "length("+strings.Repeat("length(", 11)+"@"+strings.Repeat(")", 12)+"==1") + "]", 3},
		{segs(256), 0}, {segs(257), 4}, {segs(255) + "[1]", 0}, {segs(255) + "[1,2]", 4}, {segs(250) + "[?@]", 0}, {"$[" + strings.Repeat("1,", 510) + "1]", 0}, {"$[" + strings.Repeat("1,", 511) + "1]", 4}, {"$[" + strings.Repeat("1,", 511) + "?1]", 8}, {"$[" + strings.Repeat("1,", 511) + "]", 2}, {"$[" + strings.Repeat("1,", 511) + "?" + parens(32, "@") + "]", 3},
		{"$[?" + strings.Repeat("@||", 508) + "@]", 0}, {"$[?" + strings.Repeat("@||", 509) + "@]", 4}, {"$[?" + strings.Repeat("(@)&&", 508) + "@]", 0}, {"$[?" + strings.Repeat("@==1||", 169) + "@]", 0}, {"$[?" + strings.Repeat("@==1||", 170) + "@]", 4}, {"$[?" + strings.Repeat("!@||", 254) + "@]", 0}, {"$[?" + strings.Repeat("!@||", 255) + "@]", 4}, {"$[?match(@.a,'b')" + strings.Repeat("[0]", 300) + "]", 2}, {"$[?@" + strings.Repeat("[0]", 254) + "]", 0}, {"$[?@" + strings.Repeat("[0]", 255) + "]", 4}, {"$[?foo(1)]", 2}, {"$[?foo(]", 2},
	} {
		q, e := path.Parse(x.s)
		if e != x.e || e != api.OK && !reflect.DeepEqual(q, path.Query{}) {
			t.Errorf("%d %.60s: %v", i, x.s, e)
		}
		if e == api.OK && !path.Sane(q) {
			t.Errorf("%d %.60s: not sane", i, x.s)
		}
	}
}

// P16.5: Sane.
func TestSane(t *testing.T) {
	one := number("1")
	for i, x := range []struct {
		q    path.Query
		sane bool
	}{
		{root(), true}, {here(), false}, {root(seg()), false}, {root(deep()), false}, {root(seg(name("\x00'"))), true}, {root(seg(name("\xff"))), false}, {root(deep(wild(), index(-5))), true},
		{root(seg(path.Sel{})), false}, {root(seg(path.Sel{What: 6})), false}, {root(seg(path.Sel{What: -1})), false}, {root(seg(path.Sel{What: math.MaxInt})), false},
		{root(seg(path.Sel{What: path.Wild, Name: "a"})), false}, {root(seg(path.Sel{What: path.Wild, At: 1})), false}, {root(seg(path.Sel{What: path.Name, At: 1})), false}, {root(seg(path.Sel{What: path.Index, Name: "a"})), false}, {root(seg(path.Sel{What: path.Index, Has: [3]bool{true}})), false}, {root(seg(path.Sel{What: path.Name, S: [3]int{1}})), false}, {root(seg(path.Sel{What: path.Slice, At: 1})), false}, {root(seg(path.Sel{What: path.Index, F: []path.Expr{a}})), false}, {root(seg(path.Sel{What: path.Filter, F: []path.Expr{a}, Name: "a"})), false},
		{root(seg(index(1<<53 - 1))), true}, {root(seg(index(1 << 53))), false}, {root(seg(index(-1 << 53))), false}, {root(seg(index(math.MinInt))), false}, {root(seg(slice([3]bool{true, true, true}, [3]int{1<<53 - 1, -1<<53 + 1, 0}))), true}, {root(seg(slice([3]bool{true, true, true}, [3]int{0, 0, 1 << 53}))), false}, {root(seg(slice([3]bool{}, [3]int{0, 1}))), false}, {root(seg(slice([3]bool{false, true, false}, [3]int{0, 1}))), true},
		{root(seg(path.Sel{What: path.Filter})), false}, {root(seg(path.Sel{What: path.Filter, F: []path.Expr{a, b}})), false}, {asking(path.Expr{}), false}, {asking(path.Expr{What: 8}), false}, {asking(path.Expr{What: -1}), false}, {asking(one), false}, {asking(call("length", a)), false}, {asking(call("foo", a)), false}, {asking(call("", a)), false}, {asking(call("match", a)), false}, {asking(call("match", a, b)), true},
		{asking(in(path.Or, a)), false}, {asking(in(path.Or)), false}, {asking(in(path.And, a)), false}, {asking(in(path.And, a, b)), true}, {asking(in(path.And, a, one)), false}, {asking(in(path.Not)), false}, {asking(in(path.Not, a, b)), false}, {asking(in(path.Not, one)), false}, {asking(in(path.Not, call("length", a))), false}, {asking(in(path.Not, call("search", a, b))), true},
		{asking(cmp(one, "==", one)), true}, {asking(cmp(one, "=", one)), false}, {asking(cmp(one, "", one)), false}, {asking(path.Expr{What: path.Cmp, Op: "==", L: []path.Expr{one}}), false}, {asking(path.Expr{What: path.Cmp, Op: "==", L: []path.Expr{one, one, one}}), false}, {asking(cmp(one, "==", in(path.Not, a))), false}, {asking(cmp(cmp(one, "==", one), "==", one)), false}, {asking(cmp(of(here(seg(wild()))), "==", one)), false},
		{asking(path.Expr{What: path.Path, Q: here(), Op: "=="}), false}, {asking(path.Expr{What: path.Path, Q: here(), L: []path.Expr{a}}), false}, {asking(path.Expr{What: path.Path, V: api.Val{B: true}}), false}, {asking(path.Expr{What: path.Path, V: api.Val{Kind: api.Str}}), false}, {asking(path.Expr{What: path.Or, L: []path.Expr{a, b}, Q: here()}), false}, {asking(path.Expr{What: path.Not, L: []path.Expr{a}, V: api.Val{S: "x"}}), false}, {asking(path.Expr{What: path.Not, L: []path.Expr{a}, Op: "!"}), false}, {asking(of(root(seg()))), false}, {asking(of(here(seg(index(1 << 60))))), false},
		{asking(cmp(a, "==", lit(api.Val{Kind: api.Arr}))), false}, {asking(cmp(a, "==", lit(api.Val{Kind: api.Obj}))), false}, {asking(cmp(a, "==", lit(api.Val{Kind: -1}))), false}, {asking(cmp(a, "==", text("\xff"))), false}, {asking(cmp(a, "==", number("10"))), false}, {asking(cmp(a, "==", lit(api.Val{S: "x"}))), false}, {asking(cmp(a, "==", lit(api.Val{Kind: api.Str, B: true}))), false}, {asking(cmp(a, "==", lit(api.Val{L: []api.Val{{}}}))), false}, {asking(cmp(a, "==", lit(api.Val{M: []api.Member{}}))), true}, {asking(cmp(a, "==", lit(api.Val{M: []api.Member{{}}}))), false}, {asking(cmp(a, "==", lit(api.Val{Kind: api.Str, L: []api.Val{{}}}))), false}, {asking(cmp(a, "==", path.Expr{What: path.Lit, Q: root(seg(wild()))})), false}, {asking(path.Expr{What: path.And, L: []path.Expr{a, b}, Q: root(seg(wild()))}), false}, {asking(path.Expr{What: path.Cmp, Op: "==", L: []path.Expr{one, one}, Q: root(seg(wild()))}), false}, {asking(cmp(a, "==", path.Expr{What: path.Lit, Op: "=="})), false}, {asking(cmp(a, "==", path.Expr{What: path.Lit, L: []path.Expr{a}})), false}, {asking(cmp(a, "==", path.Expr{What: path.Lit, Q: here()})), false},
	} {
		if path.Sane(x.q) != x.sane {
			t.Errorf("%d: %v", i, x.q)
		}
		path.Print(x.q)
		path.Singular(x.q)
	}
}

func TestSaneOfDepth(t *testing.T) {
	turns := func(n int) path.Query { // Or in And in Or ..: each second one is in parentheses
		x := a
		for i := range n {
			x = in(path.Or+i%2, x, b)
		}
		return asking(x)
	}
	nots := func(n int) path.Query {
		x := in(path.Not, a)
		for range n {
			x = in(path.Not, x)
		}
		return asking(x)
	}
	same := func(n int) path.Query { // And in And
		x := in(path.And, a, b)
		for range n {
			x = in(path.And, x, b)
		}
		return asking(x)
	}
	calls := func(n int) path.Query {
		x := a
		for range n {
			x = call("length", x)
		}
		return asking(cmp(x, "==", number("1")))
	}
	filters := func(n int) path.Query {
		q := here()
		for range n {
			q = here(seg(filter(of(q))))
		}
		q.Rel = false
		return q
	}
	for name, x := range map[string]struct {
		q    path.Query
		sane bool
	}{"nots 31": {nots(31), true}, "nots 32": {nots(32), false}, "same 31": {same(31), true}, "same 32": {same(32), false}, "calls 31": {calls(31), true}, "calls 32": {calls(32), false}, "filters 32": {filters(32), true}, "filters 33": {filters(33), false}, "filters much": {filters(20000), false}, "turns 63": {turns(63), true}, "turns 64": {turns(64), false}} {
		if path.Sane(x.q) != x.sane {
			t.Error(name)
		}
		if _, e := path.Parse(path.Print(x.q)); len(path.Print(x.q)) <= 8192 && (e == api.OK) != x.sane {
			t.Error(name, e)
		}
	}
	many := func(n int) path.Query { return root(seg(make([]path.Sel, n)...)) }
	for n, want := range map[int]bool{511: true, 512: false} {
		q := many(n)
		for i := range q.L[0].L {
			q.L[0].L[i] = wild()
		}
		if path.Sane(q) != want {
			t.Error(n)
		}
	}
}

func TestSingular(t *testing.T) {
	for i, x := range []struct {
		q    path.Query
		want bool
	}{{root(), true}, {here(), true}, {root(seg(name("a")), seg(index(-1))), true}, {root(deep(name("a"))), false}, {root(seg(name("a"), name("b"))), false}, {root(seg(wild())), false}, {root(seg(slice([3]bool{}, [3]int{}))), false}, {root(seg(filter(a))), false}, {root(seg()), false}, {root(seg(name("a")), seg(wild())), false}, {root(seg(path.Sel{What: 9})), false}} {
		if path.Singular(x.q) != x.want {
			t.Error(i)
		}
	}
}

// source makes queries.
type source struct{ *rand.Rand }

func (r source) query(depth int) path.Query {
	q := path.Query{Rel: r.Intn(2) == 0}
	for range r.Intn(3) {
		s := path.Seg{Deep: r.Intn(4) == 0}
		for range 1 + r.Intn(2) {
			s.L = append(s.L, r.selector(depth))
		}
		q.L = append(q.L, s)
	}
	return q
}

func (r source) selector(depth int) path.Sel {
	switch k := r.Intn(6); {
	case k == 0:
		return wild()
	case k == 1:
		return index(r.Intn(7) - 3)
	case k == 2:
		x := path.Sel{What: path.Slice}
		for i := range x.S {
			if x.Has[i] = r.Intn(2) == 0; x.Has[i] {
				x.S[i] = r.Intn(7) - 3
			}
		}
		return x
	case k == 3 && depth > 0:
		return filter(r.truth(depth - 1))
	}
	return name([]string{"a", "", "'\"\\", "\n\x00", "\u00e9", "true"}[r.Intn(6)])
}

func (r source) list(n int, part func(int) path.Expr, depth int) []path.Expr {
	var l []path.Expr
	for range n {
		l = append(l, part(depth))
	}
	return l
}

func (r source) truth(depth int) path.Expr {
	switch k := r.Intn(8); {
	case k < 2 && depth > 0:
		return in(path.Or+k, r.list(2+r.Intn(2), r.truth, depth-1)...)
	case k == 2 && depth > 0:
		return in(path.Not, r.truth(depth-1))
	case k == 3:
		return call([]string{"match", "search"}[r.Intn(2)], r.list(2, r.value, depth-1)...)
	case k == 4:
		return of(r.query(depth - 1))
	}
	return cmp(r.value(depth-1), []string{"==", "!=", "<", ">", "<=", ">="}[r.Intn(6)], r.value(depth-1))
}

func (r source) value(depth int) path.Expr {
	switch k := r.Intn(8); {
	case k == 0:
		return text([]string{"", "'\"", "\x1f"}[r.Intn(3)])
	case k == 1:
		return lit(api.Val{Kind: api.Num, N: api.Dec{Neg: r.Intn(2) == 0, Digits: "15", Exp: r.Intn(60) - 30}})
	case k == 2:
		return lit(api.Val{Kind: api.Bool, B: r.Intn(2) == 0})
	case k == 3:
		return lit(api.Val{})
	case k == 4 && depth > 0:
		return call("length", r.value(depth-1))
	case k == 5 && depth > 0:
		return call([]string{"count", "value"}[r.Intn(2)], of(r.query(depth-1)))
	}
	for {
		if q := r.query(0); path.Singular(q) {
			return of(q)
		}
	}
}

// P16.6: what is sane is parsed from its Print.
func TestPrintIsParsed(t *testing.T) {
	r := source{rand.New(rand.NewSource(1))}
	for range 20000 {
		q := r.query(4)
		q.Rel = false
		if !path.Sane(q) {
			if _, e := path.Parse(path.Print(q)); e == api.OK {
				t.Fatalf("%s is not sane", path.Print(q))
			}
			continue
		}
		s := path.Print(q)
		if again, e := path.Parse(s); len(s) <= 8192 && (e != api.OK || !alike(again, q) || path.Print(again) != s) {
			t.Fatalf("%s: %v %v", s, again, e)
		}
	}
}

// P1, W3: texts of any kind are answered; what is parsed is sane, and parsed again from its Print it is the same.
func TestAnyText(t *testing.T) {
	r := rand.New(rand.NewSource(2))
	words := []string{"$", "@", ".", "..", "a", "*", "[", "]", "(", ")", "?", "!", "&&", "||", "==", "<", "1", "-1", "0", ":", ",", "'x'", "length", "match", "count", "true", "null", " ", "1.5"}
	good := 0
	for range 400000 {
		s := "$"
		if r.Intn(2) == 0 {
			s = "$[?"
		}
		for range r.Intn(10) {
			s += words[r.Intn(len(words))]
		}
		if strings.HasPrefix(s, "$[?") {
			s += "]"
		}
		q, e := path.Parse(s)
		if e != api.OK {
			if !reflect.DeepEqual(q, path.Query{}) || e != api.ErrForm && e != api.ErrType && e != api.ErrLimit {
				t.Fatalf("%s: %v", s, e)
			}
			continue
		}
		good++
		again, e := path.Parse(path.Print(q))
		if e != api.OK || !alike(again, q) || !path.Sane(q) {
			t.Fatalf("%s: %s", s, path.Print(q))
		}
	}
	if good < 3000 {
		t.Error(good)
	}
}

// The kinds are told by these numbers.
func TestKinds(t *testing.T) {
	if [5]int{path.Name, path.Wild, path.Index, path.Slice, path.Filter} != [5]int{1, 2, 3, 4, 5} {
		t.Error("selectors")
	}
	if [7]int{path.Or, path.And, path.Not, path.Cmp, path.Lit, path.Path, path.Call} != [7]int{1, 2, 3, 4, 5, 6, 7} {
		t.Error("expressions")
	}
}
