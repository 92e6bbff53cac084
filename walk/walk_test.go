package walk_test

import (
	"math/rand"
	"reflect"
	"slices"
	"strconv"
	"strings"
	"testing"
	"time"

	"orangery/api"
	"orangery/filter"
	"orangery/parse"
	"orangery/path"
	"orangery/value"
	"orangery/walk"
)

func of(t *testing.T, s string) api.Val {
	t.Helper()
	v, e, at := parse.Value([]byte(s))
	if e != api.OK {
		t.Fatalf("%.60q: %v %d", s, e, at)
	}
	return v
}

func query(t *testing.T, s string) path.Query {
	t.Helper()
	q, e := path.Parse(s)
	if e != api.OK {
		t.Fatalf("%s: %v", s, e)
	}
	return q
}

// expression is the one of a filter's text.
func expression(t *testing.T, s string) path.Expr {
	t.Helper()
	return query(t, "$[?"+s+"]").L[0].L[0].F[0]
}

// P18.1 and P18.3: what a query tells, and where.
func TestRun(t *testing.T) {
	// Of each: the value, the query, and the places it tells.
	const store = `{"a":[{"b":1,"c":[10,20,30]},{"b":2},{"b":"x","d":{"b":3}},[],null],"b":{"b":{"b":true}},"e":{}}`
	for _, x := range []struct{ v, q, want string }{
		{store, "$", "$"}, {store, "$.b.b.b", "$['b']['b']['b']"}, {store, "$['e','b','zz','e']", "$['e'] $['b'] $['e']"}, {store, "$.a.b", ""}, {store, "$[0]", ""}, {store, "$.a[0,-1,-5,4,5,-6]", "$['a'][0] $['a'][4] $['a'][0] $['a'][4]"},
		{store, "$.*", "$['a'] $['b'] $['e']"}, {store, "$.e.*", ""}, {store, "$.a[1].b.*", ""}, {store, "$.a[0].c[1:]", "$['a'][0]['c'][1] $['a'][0]['c'][2]"}, {store, "$.a[0].c[::-1]", "$['a'][0]['c'][2] $['a'][0]['c'][1] $['a'][0]['c'][0]"}, {store, "$[0:1]", ""}, {store, "$.a[3:1:-1,0]", "$['a'][3] $['a'][2] $['a'][0]"},
		{store, "$..b", "$['b'] $['a'][0]['b'] $['a'][1]['b'] $['a'][2]['b'] $['a'][2]['d']['b'] $['b']['b'] $['b']['b']['b']"}, {store, "$..[0]", "$['a'][0] $['a'][0]['c'][0]"}, {store, "$.b..b", "$['b']['b'] $['b']['b']['b']"}, {`[[1],[2]]`, "$..*", "$[0] $[1] $[0][0] $[1][0]"}, {`[[1],[2]]`, "$..[0,*]", "$[0] $[0] $[1] $[0][0] $[0][0] $[1][0] $[1][0]"}, {`{"a":{"a":{"a":0}}}`, "$..a..a", "$['a']['a'] $['a']['a']['a'] $['a']['a']['a']"},
		{`{"a": [{"a": 1}]}`, "$..a", "$['a'] $['a'][0]['a']"}, {"7", "$..*", ""}, {"7", "$.*", ""},
		{store, "$.a[?@.b]", "$['a'][0] $['a'][1] $['a'][2]"}, {store, "$.a[?@.b==2||@.b=='x']", "$['a'][1] $['a'][2]"}, {store, "$.a[?@.b<2]", "$['a'][0]"}, {store, "$.a[?!@.b]", "$['a'][3] $['a'][4]"}, {store, "$.a[?@.b&&!(@.b==1)]", "$['a'][1] $['a'][2]"}, {store, "$.a[?@==null]", "$['a'][4]"}, {store, "$.a[?@.zz==@.yy]", "$['a'][0] $['a'][1] $['a'][2] $['a'][3] $['a'][4]"}, {store, "$.a[?@.b!=1]", "$['a'][1] $['a'][2] $['a'][3] $['a'][4]"}, {store, "$[?@.b]", "$['b']"}, {store, "$..[?@.b==$.a[1].b]", "$['a'][1]"}, {store, "$..[?@==$.b.b.b]", "$['b']['b']['b']"},
		{store, "$.a[?length(@.c)==3]", "$['a'][0]"}, {store, "$.a[?length(@)==0]", "$['a'][3]"}, {store, "$.a[?count(@..b)==2]", "$['a'][2]"}, {store, "$.a[?count(@.zz)==0]", "$['a'][0] $['a'][1] $['a'][2] $['a'][3] $['a'][4]"}, {store, "$.a[?value(@..b)==1]", "$['a'][0]"}, {store, "$.a[?value(@..b)==value(@..zz)]", "$['a'][2] $['a'][3] $['a'][4]"}, {store, "$.a[?match(@.b,'[xy]')]", "$['a'][2]"}, {`["ab","b","cb",1]`, "$[?search(@,'^|b'),?match(@,'.b')]", "$[0] $[1] $[2] $[0] $[2]"}, {store, "$.a[?@.c[?@>10]]", "$['a'][0]"}, {store, "$.a[0].c[?@>10,?@<30]", "$['a'][0]['c'][1] $['a'][0]['c'][2] $['a'][0]['c'][0] $['a'][0]['c'][1]"}, {store, "$.a[?$.e]", "$['a'][0] $['a'][1] $['a'][2] $['a'][3] $['a'][4]"}, {store, "$.a[?$.f]", ""}, {store, "$.a[?@]", "$['a'][0] $['a'][1] $['a'][2] $['a'][3] $['a'][4]"},
		{`{"'":{"\u0001":1}}`, "$..*", `$['\''] $['\'']['\u0001']`}, {`[1,[1],[[1]]]`, "$[?@==1,?@[0]==1,?@[0][0]==1]", "$[0] $[1] $[2]"}, {`[[1,2],[2,1],{"a":1,"b":2},{"b":2,"a":1}]`, "$[?@==$[0],?@==$[2]]", "$[0] $[2] $[3]"},
	} {
		v := of(t, x.v)
		l, e := walk.Run(query(t, x.q), v)
		if got := strings.Join(walk.Paths(l), " "); e != api.OK || got != x.want {
			t.Errorf("%s: %s %v", x.q, got, e)
		}
		for _, n := range l {
			if w, ok := value.At(v, n.At); !ok || !reflect.DeepEqual(w, n.V) {
				t.Errorf("%s: %v", x.q, n)
			}
		}
	}
	if len(walk.Paths(nil)) != 0 {
		t.Error("Paths of nothing")
	}
}

func TestRunErrors(t *testing.T) {
	good, v := query(t, "$..*"), api.Val{}
	for i, x := range []struct {
		q path.Query
		v api.Val
	}{{path.Query{Rel: true}, v}, {path.Query{L: []path.Seg{{}}}, v}, {good, api.Val{Kind: 6}}, {good, api.Val{S: "x"}}, {good, api.Val{Kind: api.Arr, L: make([]api.Val, 4096)}}, {good, api.Val{Kind: api.Obj, M: make([]api.Member, 2)}}, {path.Query{L: []path.Seg{{L: []path.Sel{{What: path.Filter}}}}}, api.Val{Kind: api.Arr, L: make([]api.Val, 4095)}}} {
		if l, e := walk.Run(x.q, x.v); l != nil || e != api.ErrArg {
			t.Errorf("%d: %v", i, e)
		}
	}
}

func TestRunLimit(t *testing.T) {
	list := func(n int) api.Val { return api.Val{Kind: api.Arr, L: make([]api.Val, n)} }
	two := api.Val{Kind: api.Arr, L: []api.Val{list(64), list(64)}}
	for i, x := range []struct {
		v api.Val
		q string
		n int // -1: too many
	}{
		{list(4095), "$[*]", 4095}, {list(4095), "$[*,0]", 4096}, {list(4095), "$[*,0,0]", -1}, {list(64), "$" + strings.Repeat("[*,*]", 1) + "[0]", 0}, {list(2048), "$[*,*]", 4096}, {list(2049), "$[*,*]", -1}, {list(2049), "$[*,*][0]", -1}, {list(1365), "$[*,*,*,0]", 4096},
		{two, "$[*][*]", 128}, {two, "$[0,1,0,1,0,1,0,1][*,*,*,*]", 2048}, {two, "$[0,1,0,1,0,1,0,1,0,1,0,1,0,1,0,1,0][*,*,*,*]", -1}, {list(4000), "$[?count($[*])==4000]", 4000}, {list(4000), "$[?count($[*,*])==4000]", -1}, {list(4000), "$[?count($[*,*][0])==0]", -1}, {list(4000), "$[?$[*,*]]", -1}, {list(4000), "$[?!$[*,*]]", -1}, {list(4000), "$[?value($[*,*])==1]", -1}, {list(4000), "$[?1==1||$[*,*]]", 4000}, {list(4000), "$[?1==2&&$[*,*]]", 0}, {list(4000), "$[?1==1&&$[*,*]]", -1}, {list(4000), "$[?$.a[0][?$[*,*]]]", 0}, {list(4000), "$.a[?$[*,*]]", 0}, {list(4000), "$[0][?$[*,*]]", 0}, {list(4000), "$[?length(value($[*,*]))==count($[0])]", -1},
	} {
		l, e := walk.Run(query(t, x.q), x.v)
		if x.n < 0 && (e != api.ErrLimit || l != nil) || x.n >= 0 && (e != api.OK || len(l) != x.n) {
			t.Errorf("%d %s: %d %v", i, x.q, len(l), e)
		}
	}
}

// P18.2: True, and P18.3: Here.
func TestTrueAndHere(t *testing.T) {
	root := of(t, `{"a":1,"l":[1,2],"s":"abc"}`)
	now := of(t, `{"a":2,"l":[1,2],"p":"a.c","n":null}`)
	for s, want := range map[string]bool{
		"@": true, "$.s": true, "@.s": false, "$.p": false, "@.a==2": true, "$.a==1": true, "@.a==$.a": false, "@.l==$.l": true, "@.a>$.a": true, "@.n==null": true, "@.n==@.m": false, "@.m==$.m": true, "@.m<=$.m": true, "@.m<$.m": false, "!@.m": true, "@.m||@.a": true, "@.m&&@.a": false, "@.a&&@.l&&@.p": true, "@.a&&@.l&&!@.p": false, "@.m||@.n||@.q": true, "!(@.m||@.q)": true,
		"match($.s,@.p)": true, "search($.s,'b')": true, "match($.s,'b')": false, "match(@.a,'2')": false, "match(@.m,'x')": false, "length($.s)==3": true, "length(@.l)==2": true, "length(@.a)==1": false, "length(@)==4": true, "length(@.m)==@.m": true, "count(@.*)==4": true, "count($..*)==5": true, "value(@..p)=='a.c'": true, "value(@.*)==value(@.zz)": true, "length('abc')==3": true, "1==1.0": true, "'a'<'b'": true, "1<'2'": false, "true==true": true, "true<=true": true, "false<true": false,
	} {
		if got, e := walk.True(expression(t, s), root, now); got != want || e != api.OK {
			t.Errorf("%s: %v %v", s, got, e)
		}
	}
	for s, want := range map[string]string{"@.l[*]": "[1,2]", "@": `[{"a":2,"l":[1,2],"p":"a.c","n":null}]`, "$.a": "[1]", "@.zz": "[]", "@..a": "[2]", "$.l[::-1,0]": "[2,1,1]", "@[?@==$.a]": "[]", "@[?@>$.a]": "[2]"} {
		q := expression(t, s).Q
		l, e := walk.Here(q, root, now)
		if e != api.OK || !value.Same(api.Val{Kind: api.Arr, L: l}, of(t, want)) {
			t.Errorf("%s: %v %v", s, l, e)
		}
	}
	many := api.Val{Kind: api.Arr, L: make([]api.Val, 3000)}
	for _, s := range []string{"$[*,*]", "1==1&&$[*,*]", "count($[*,*])==1", "1<count($[*,*][9])", "!$[*,*]", "match(value($[*,*]),'a')", "length(value($[*,*]))==1"} {
		if ok, e := walk.True(expression(t, s), many, root); ok || e != api.ErrLimit {
			t.Errorf("%s: %v %v", s, ok, e)
		}
	}
	if ok, e := walk.True(expression(t, "1==1||$[*,*]"), many, root); !ok || e != api.OK {
		t.Error(ok, e)
	}
	if l, e := walk.Here(query(t, "$[*,*]"), many, root); l != nil || e != api.ErrLimit {
		t.Error(e)
	}
	if l, e := walk.Here(query(t, "$[*]"), many, root); len(l) != 3000 || e != api.OK {
		t.Error(e)
	}
}

func TestTrueOfAnything(t *testing.T) {
	// No panic, and an end, whatever the expression and the values are.
	r := rand.New(rand.NewSource(1))
	var some func(depth int) path.Expr
	var asked func(depth int) path.Query
	asked = func(depth int) path.Query {
		q := path.Query{Rel: r.Intn(2) == 0}
		for range r.Intn(3) {
			s := path.Seg{Deep: r.Intn(2) == 0}
			for range r.Intn(3) {
				x := path.Sel{What: r.Intn(8) - 1, Name: "a", At: r.Intn(5) - 2, Has: [3]bool{true, r.Intn(2) == 0, true}, S: [3]int{r.Intn(5) - 2, r.Int(), r.Intn(5) - 2}}
				for range r.Intn(3) {
					x.F = append(x.F, some(depth-1))
				}
				s.L = append(s.L, x)
			}
			q.L = append(q.L, s)
		}
		return q
	}
	some = func(depth int) path.Expr {
		x := path.Expr{What: r.Intn(10) - 1, Op: []string{"", "==", "<", "match", "length", "count", "value", "search"}[r.Intn(8)], V: api.Val{Kind: r.Intn(8) - 1}}
		if depth > 0 {
			x.Q = asked(depth)
			for range r.Intn(4) {
				x.L = append(x.L, some(depth-1))
			}
		}
		return x
	}
	var wild func(depth int) api.Val
	wild = func(depth int) api.Val {
		v := api.Val{Kind: r.Intn(8) - 1, S: "\xff", B: true}
		for range r.Intn(depth + 1) {
			v.L = append(v.L, wild(depth-1))
			v.M = append(v.M, api.Member{Key: "a", V: wild(depth - 1)})
		}
		return v
	}
	for range 30000 {
		x := some(3)
		walk.True(x, wild(3), wild(2))
		walk.Here(asked(3), wild(2), wild(3))
		walk.Run(asked(2), wild(2))
		walk.True(path.Expr{What: path.Not}, api.Val{}, api.Val{})
	}
	deep := api.Val{}
	not := path.Expr{What: path.Path}
	for range 50000 {
		deep = api.Val{Kind: api.Arr, L: []api.Val{deep}}
		not = path.Expr{What: path.Not, L: []path.Expr{not}}
	}
	walk.True(not, deep, deep)
	if _, e := walk.Here(query(t, "$..*"), deep, deep); e != api.ErrLimit {
		t.Error(e)
	}
	if l, e := walk.Here(query(t, "$..zz"), deep, deep); len(l) != 0 || e != api.OK {
		t.Error(e)
	}
}

// plain is a walk by another way: it goes down by itself, and keeps nothing.
type plain struct {
	root api.Val
	much bool
}

func (p *plain) ask(q path.Query, now walk.Node) []walk.Node {
	l := []walk.Node{now}
	if !q.Rel {
		l = []walk.Node{{V: p.root}}
	}
	for _, s := range q.L {
		var next []walk.Node
		for _, n := range l {
			if s.Deep {
				p.all(n, func(n walk.Node) { next = append(next, p.selected(s, n)...) })
			} else {
				next = append(next, p.selected(s, n)...)
			}
		}
		if l = next; len(l) > 4096 {
			p.much = true
		}
	}
	return l
}

func (p *plain) all(n walk.Node, see func(walk.Node)) {
	see(n)
	for _, k := range kids(n) {
		p.all(k, see)
	}
}

func kids(n walk.Node) []walk.Node {
	var l []walk.Node
	for i, v := range n.V.L {
		l = append(l, walk.Node{At: append(slices.Clone(n.At), api.Step{At: i}), V: v})
	}
	for _, m := range n.V.M {
		l = append(l, walk.Node{At: append(slices.Clone(n.At), api.Step{Named: true, Name: m.Key}), V: m.V})
	}
	return l
}

func (p *plain) selected(s path.Seg, n walk.Node) []walk.Node {
	var l []walk.Node
	for _, x := range s.L {
		all := kids(n)
		switch x.What {
		case path.Name:
			for _, k := range all {
				if last := k.At[len(k.At)-1]; last.Named && last.Name == x.Name {
					l = append(l, k)
				}
			}
		case path.Wild:
			l = append(l, all...)
		case path.Index:
			for i, k := range all {
				if n.V.Kind == api.Arr && (i == x.At || i-len(all) == x.At) {
					l = append(l, k)
				}
			}
		case path.Slice:
			for _, i := range filter.Slice(len(n.V.L), x.Has, x.S) {
				l = append(l, all[i])
			}
		case path.Filter:
			for _, k := range all {
				if p.truth(x.F[0], k) {
					l = append(l, k)
				}
			}
		}
	}
	return l
}

func (p *plain) truth(x path.Expr, n walk.Node) bool {
	switch x.What {
	case path.Or:
		return slices.ContainsFunc(x.L, func(y path.Expr) bool { return p.truth(y, n) })
	case path.And:
		return !slices.ContainsFunc(x.L, func(y path.Expr) bool { return !p.truth(y, n) })
	case path.Not:
		return !p.truth(x.L[0], n)
	case path.Path:
		return len(p.ask(x.Q, n)) > 0
	case path.Cmp:
		return filter.Compare(p.result(x.L[0], n), x.Op, p.result(x.L[1], n))
	}
	return filter.Match(p.result(x.L[0], n), p.result(x.L[1], n), x.Op == "match")
}

func (p *plain) result(x path.Expr, n walk.Node) filter.Res {
	var vals []api.Val
	if x.What == path.Call && x.Op != "length" {
		x.Q = x.L[0].Q
	}
	if x.What == path.Path || x.What == path.Call && x.Op != "length" {
		for _, k := range p.ask(x.Q, n) {
			vals = append(vals, k.V)
		}
	}
	switch {
	case x.What == path.Lit:
		return filter.Res{Is: true, V: x.V}
	case x.What == path.Call && x.Op == "length":
		return filter.Length(p.result(x.L[0], n))
	case x.What == path.Call && x.Op == "count":
		return filter.Count(len(vals))
	}
	return filter.Only(vals)
}

// some is a text of a query; sign is $ or @.
func some(r *rand.Rand, sign string, depth int) string {
	s := sign
	for range r.Intn(4) {
		if r.Intn(4) == 0 {
			s += ".."
		}
		s += "["
		for i := range 1 + r.Intn(2) {
			if i > 0 {
				s += ","
			}
			s += selector(r, depth)
		}
		s += "]"
	}
	return s
}

func selector(r *rand.Rand, depth int) string {
	n := func() string { return strconv.Itoa(r.Intn(5) - 2) }
	switch k := r.Intn(7); {
	case k == 0:
		return "*"
	case k == 1:
		return n()
	case k == 2:
		return n() + ":" + n()
	case k == 3:
		return "::" + n()
	case k < 6 && depth > 0:
		return "?" + truth(r, depth-1)
	}
	return []string{"'a'", "'b'", "'c'"}[r.Intn(3)]
}

func truth(r *rand.Rand, depth int) string {
	sign := []string{"@", "@", "$"}[r.Intn(3)]
	switch k := r.Intn(8); {
	case k == 0 && depth > 0:
		return "(" + truth(r, depth-1) + "||" + truth(r, depth-1) + ")"
	case k == 1 && depth > 0:
		return "(" + truth(r, depth-1) + "&&" + truth(r, depth-1) + ")"
	case k == 2 && depth > 0:
		return "!(" + truth(r, depth-1) + ")"
	case k < 5:
		return some(r, sign, depth)
	case k == 5:
		return "match(" + operand(r, depth) + ",'a|b')"
	}
	return operand(r, depth) + []string{"==", "!=", "<", ">", "<=", ">="}[r.Intn(6)] + operand(r, depth)
}

func operand(r *rand.Rand, depth int) string {
	sign := []string{"@", "@", "$"}[r.Intn(3)]
	switch r.Intn(8) {
	case 0:
		return "'a'"
	case 1:
		return "1"
	case 2:
		return "length(" + sign + ".a)"
	case 3:
		return "count(" + some(r, sign, depth-1) + ")"
	case 4:
		return "value(" + some(r, sign, depth-1) + ")"
	}
	return sign + []string{"", ".a", "[0]", ".b.a", "[-1].a"}[r.Intn(5)]
}

// built is a value of a source.
func built(r *rand.Rand, depth int) api.Val {
	v := api.Val{Kind: r.Intn(8) % 6}
	if depth == 0 {
		v.Kind = 1 + r.Intn(3)
	}
	switch v.Kind {
	case api.Num:
		v.N = api.Dec{Digits: strconv.Itoa(1 + r.Intn(3))}
	case api.Str:
		v.S = []string{"a", "b", ""}[r.Intn(3)]
	case api.Arr:
		for range r.Intn(4) {
			v.L = append(v.L, built(r, depth-1))
		}
	case api.Obj:
		for _, k := range r.Perm(3)[:r.Intn(4)] {
			v.M = append(v.M, api.Member{Key: []string{"a", "b", "c"}[k], V: built(r, depth-1)})
		}
	}
	return v
}

// W2 and P18.4: what is told is what another walk tells, and it stands where it is told.
func TestAgainstAnother(t *testing.T) {
	r := rand.New(rand.NewSource(2))
	told := 0
	for range 30000 {
		s := some(r, "$", 3)
		q, e := path.Parse(s)
		if e != api.OK {
			t.Fatal(s, e)
		}
		v := built(r, 4)
		p := plain{root: v}
		want := p.ask(q, walk.Node{V: v})
		l, e := walk.Run(q, v)
		if p.much {
			continue
		}
		if e != api.OK || len(l) != len(want) {
			t.Fatalf("%s of %v: %d %v, not %d", s, v, len(l), e, len(want))
		}
		told += len(l)
		for i, n := range l {
			if w, ok := value.At(v, n.At); !ok || !reflect.DeepEqual(w, n.V) || !slices.Equal(n.At, want[i].At) {
				t.Fatalf("%s of %v: %v, not %v", s, v, n, want[i])
			}
		}
		if path.Singular(q) && len(l) > 1 {
			t.Fatal(s)
		}
		vals, e := walk.Here(q, v, api.Val{})
		if e != api.OK || len(vals) != len(l) {
			t.Fatal(s, e)
		}
		places := walk.Paths(l)
		for i, n := range l {
			if again, e := walk.Run(query(t, places[i]), v); e != api.OK || len(again) != 1 || !slices.Equal(again[0].At, n.At) || !reflect.DeepEqual(vals[i], n.V) {
				t.Fatalf("%s of %v: %s", s, v, places[i])
			}
		}
	}
	if told < 5000 {
		t.Error(told)
	}
}

func TestAllButTheRootAreTold(t *testing.T) {
	r := rand.New(rand.NewSource(3))
	for range 2000 {
		v := built(r, 4)
		l, e := walk.Run(query(t, "$..*"), v)
		seen := map[string]int{}
		for _, s := range walk.Paths(l) {
			seen[s]++
		}
		if e != api.OK || len(l) != value.Count(v)-1 || len(seen) != len(l) {
			t.Fatal(v, len(l))
		}
	}
}

// P1: each call ends, though filters stand in filters.
func TestFiltersInFiltersEnd(t *testing.T) {
	begin := time.Now()
	flat := of(t, "["+strings.Repeat("1,", 50)+"1]")
	chain := of(t, strings.Repeat("[", 64)+strings.Repeat("]", 64))
	for _, v := range []api.Val{flat, chain} {
		for _, open := range []string{"[?$", "..[?@", "..[?$", "[?@..[0]&&$"} {
			s := "$" + strings.Repeat(open, 30) + "[?@]" + strings.Repeat("]", 30)
			if _, e := walk.Run(query(t, s), v); e != api.OK && e != api.ErrLimit {
				t.Error(s, e)
			}
		}
	}
	if d := time.Since(begin); d > 20*time.Second {
		t.Error(d)
	}
}
