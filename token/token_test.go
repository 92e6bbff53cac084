package token_test

import (
	"math"
	"math/rand"
	"slices"
	"strings"
	"testing"
	"unicode/utf8"

	"orangery/api"
	"orangery/token"
)

func num(neg bool, digits string, exp int) api.Dec {
	return api.Dec{Neg: neg, Digits: digits, Exp: exp}
}

// P15.1: Next.
func TestNext(t *testing.T) {
	for i, x := range []struct {
		s    string
		at   int
		want token.Token
	}{
		{"", 0, token.Token{}}, {" \t\n\r", 0, token.Token{From: 4, To: 4}}, {"ab", 2, token.Token{From: 2, To: 2}}, {"a ", 1, token.Token{From: 2, To: 2}},
		{"abc", 1, token.Token{Kind: token.Name, S: "bc", From: 1, To: 3}}, {" _a0Z9-", 0, token.Token{Kind: token.Name, S: "_a0Z9", From: 1, To: 6}}, {"\u00e9\U0001F600a.b", 0, token.Token{Kind: token.Name, S: "\u00e9\U0001F600a", From: 0, To: 7}}, {"\u0080", 0, token.Token{Kind: token.Name, S: "\u0080", To: 2}}, {"a\x7f", 0, token.Token{Kind: token.Name, S: "a", To: 1}}, {"\uFFFDx", 0, token.Token{Kind: token.Name, S: "\uFFFDx", To: 4}}, {"true", 0, token.Token{Kind: token.Name, S: "true", To: 4}}, {"a b", 0, token.Token{Kind: token.Name, S: "a", To: 1}},
		{"12", 0, token.Token{Kind: token.Number, N: num(false, "12", 0), To: 2}}, {"-1.5e2]", 0, token.Token{Kind: token.Number, N: num(true, "15", 1), To: 6}}, {"0", 0, token.Token{Kind: token.Number, To: 1}}, {"-0", 0, token.Token{Kind: token.Number, To: 2}}, {"1..2", 0, token.Token{Kind: token.Number, N: num(false, "1", 0), To: 1}}, {"1.5..2", 0, token.Token{Kind: token.Number, N: num(false, "15", -1), To: 3}}, {"1+2", 0, token.Token{Kind: token.Number, N: num(false, "1", 0), To: 1}}, {"1-2", 0, token.Token{Kind: token.Number, N: num(false, "1", 0), To: 1}}, {"1E+2-3", 0, token.Token{Kind: token.Number, N: num(false, "1", 2), To: 4}}, {"1e-2x", 0, token.Token{Kind: token.Number, N: num(false, "1", -2), To: 4}}, {"12a", 0, token.Token{Kind: token.Number, N: num(false, "12", 0), To: 2}},
		{"'a'b", 0, token.Token{Kind: token.Text, S: "a", To: 3}}, {`""`, 0, token.Token{Kind: token.Text, To: 2}}, {`'a"b'`, 0, token.Token{Kind: token.Text, S: `a"b`, To: 5}}, {`"a'b"`, 0, token.Token{Kind: token.Text, S: "a'b", To: 5}}, {`'\''`, 0, token.Token{Kind: token.Text, S: "'", To: 4}}, {`"\""`, 0, token.Token{Kind: token.Text, S: `"`, To: 4}}, {`'\\\/\b\f\n\r\t\u00e9\uD83D\ude00'`, 0, token.Token{Kind: token.Text, S: "\\/\b\f\n\r\t\u00e9\U0001F600", To: 34}}, {"'\u00e9\x7f'", 0, token.Token{Kind: token.Text, S: "\u00e9\x7f", To: 5}}, {`'\u0027\u0022'`, 0, token.Token{Kind: token.Text, S: "'\"", To: 14}},
		{"...", 0, token.Token{Kind: token.Sign, S: "..", To: 2}}, {". .", 0, token.Token{Kind: token.Sign, S: ".", To: 1}}, {"=", 0, token.Token{Kind: token.Sign, S: "=", To: 1}}, {"===", 0, token.Token{Kind: token.Sign, S: "==", To: 2}}, {"!==", 0, token.Token{Kind: token.Sign, S: "!=", To: 2}}, {"! =", 0, token.Token{Kind: token.Sign, S: "!", To: 1}}, {"<=>", 0, token.Token{Kind: token.Sign, S: "<=", To: 2}}, {"=>", 0, token.Token{Kind: token.Sign, S: "=", To: 1}}, {"&&&", 0, token.Token{Kind: token.Sign, S: "&&", To: 2}}, {"::=", 0, token.Token{Kind: token.Sign, S: ":", To: 1}}, {":=", 0, token.Token{Kind: token.Sign, S: ":=", To: 2}}, {"-a", 0, token.Token{Kind: token.Sign, S: "-", To: 1}}, {"-.5", 0, token.Token{Kind: token.Sign, S: "-", To: 1}}, {"--1", 0, token.Token{Kind: token.Sign, S: "-", To: 1}}, {"+1", 0, token.Token{Kind: token.Sign, S: "+", To: 1}}, {".5", 0, token.Token{Kind: token.Sign, S: ".", To: 1}},
	} {
		if got, e := token.Next(x.s, x.at); e != api.OK || got != x.want {
			t.Errorf("%d %q: %v %v", i, x.s, got, e)
		}
	}
	for _, s := range strings.Fields(".. == != <= >= && || := $ @ . , : ; ? * [ ] ( ) { } < > ! = + -") {
		if got, e := token.Next("x "+s+" y", 1); e != api.OK || got != (token.Token{Kind: token.Sign, S: s, From: 2, To: 2 + len(s)}) {
			t.Errorf("%q: %v %v", s, got, e)
		}
	}
}

func TestNextErrors(t *testing.T) {
	for i, x := range []struct {
		s  string
		at int
		e  api.Errno
	}{
		{"a", -1, 1}, {"a", 2, 1}, {"", 1, 1}, {"a", math.MaxInt, 1}, {"a", math.MinInt, 1}, {"\xff", -1, 1},
		{"&", 0, 2}, {"& &", 0, 2}, {"|", 0, 2}, {"#", 0, 2}, {"%", 0, 2}, {"/", 0, 2}, {"\\", 0, 2}, {"^", 0, 2}, {"`", 0, 2}, {"~", 0, 2}, {"\x00", 0, 2}, {"\x7f", 0, 2}, {"\v", 0, 2}, {"a#", 1, 2},
		{"\xff", 0, 2}, {"\x80", 0, 2}, {"\xc3", 0, 2}, {"a\xff", 0, 2}, {"a\u00e9\xe2\x82", 0, 2}, {"\u00e9", 1, 2}, {"ab\xffc", 1, 2},
		{"1.", 0, 2}, {"1.a", 0, 2}, {"1.e1", 0, 2}, {"1e", 0, 2}, {"1e+", 0, 2}, {"01", 0, 2}, {"-01", 0, 2}, {"1.2.3", 0, 2}, {"1e5e", 0, 2}, {"1e-+1", 0, 2}, {"1ex", 0, 2}, {"1...", 0, 0}, {"1e.5", 0, 2}, {"1e..", 0, 2}, {"1e400", 0, 4}, {strings.Repeat("1", 41), 0, 4}, {strings.Repeat("1", 1001), 0, 4},
		{"'", 0, 2}, {"'a", 0, 2}, {`"a'`, 0, 2}, {"'a\n'", 0, 2}, {"'\x00'", 0, 2}, {"'\x1f'", 0, 2}, {"'\xff'", 0, 2}, {"'\xc3'", 0, 2}, {`'\"'`, 0, 2}, {`"\'"`, 0, 2}, {`'\`, 0, 2}, {`'\'`, 0, 2}, {`'\x'`, 0, 2}, {`'\u12'`, 0, 2}, {`'\ud800'`, 0, 2}, {`'\udc00'`, 0, 2}, {`'\ud800\u0041'`, 0, 2}, {`'\0'`, 0, 2},
	} {
		got, e := token.Next(x.s, x.at)
		if e != x.e || e != api.OK && got != (token.Token{}) {
			t.Errorf("%d %q: %v %v", i, x.s, got, e)
		}
	}
}

// P15.1 and P15.3: what each byte begins, and what stands in a name, a number and a text.
func TestEachByte(t *testing.T) {
	if token.End != 0 || token.Name != 1 || token.Text != 2 || token.Number != 3 || token.Sign != 4 {
		t.Error("kinds")
	}
	const letters = "abcdefghijklmnopqrstuvwxyzABCDEFGHIJKLMNOPQRSTUVWXYZ_"
	const digits = "0123456789"
	for c := range 128 {
		s := string(rune(c))
		letter, digit := strings.Contains(letters, s), strings.Contains(digits, s)
		if token.IsName(s) != letter || token.IsName("a"+s) != (letter || digit) {
			t.Errorf("%q: name", s)
		}
		got, e := token.Next(s, 0)
		want := token.Token{Kind: token.Sign, S: s, To: 1}
		switch {
		case strings.Contains(" \t\n\r", s):
			want = token.Token{From: 1, To: 1}
		case letter:
			want.Kind = token.Name
		case s == "0":
			want = token.Token{Kind: token.Number, To: 1}
		case digit:
			want = token.Token{Kind: token.Number, N: num(false, s, 0), To: 1}
		case !strings.Contains("$@.,:;?*[](){}<>!=+-", s):
			want = token.Token{}
		}
		if got != want || (e == api.OK) != (want != token.Token{}) || e != api.OK && e != api.ErrForm {
			t.Errorf("%q: %v %v", s, got, e)
		}
		if digit && s != "0" {
			if got, e := token.Next("-1."+s+"e"+s, 0); e != api.OK || got.N != num(true, "1"+s, c-'0'-1) || got.To != 6 {
				t.Errorf("%q: %v %v", s, got, e)
			}
		}
		if got, e := token.Next("'"+s+"a'", 0); c >= 32 && s != "'" && s != "\\" && (e != api.OK || got.S != s+"a" || got.To != 4) || c < 32 && e != api.ErrForm {
			t.Errorf("%q: %v %v", s, got, e)
		}
	}
}

// P15.2: All.
func TestAll(t *testing.T) {
	l, e := token.All(" $..a[?@.x<=-1.5] ")
	var texts []string
	for _, x := range l {
		texts = append(texts, " $..a[?@.x<=-1.5] "[x.From:x.To])
	}
	if e != api.OK || !slices.Equal(texts, []string{"$", "..", "a", "[", "?", "@", ".", "x", "<=", "-1.5", "]"}) {
		t.Errorf("%q %v", texts, e)
	}
	for i, x := range []struct {
		s string
		n int
		e api.Errno
	}{
		{"", 0, 0}, {" \n", 0, 0}, {strings.Repeat(" ", 8192), 0, 0}, {strings.Repeat(" ", 8193), 0, 4}, {strings.Repeat("#", 8193), 0, 4}, {strings.Repeat("$", 8192), 8192, 0}, {"a # 1e400", 0, 2}, {"a 1e400 #", 0, 4}, {"a 'b", 0, 2}, {"a\"b\"1", 3, 0}, {"1 2", 2, 0},
	} {
		if l, e := token.All(x.s); e != x.e || len(l) != x.n || e != api.OK && l != nil {
			t.Errorf("%d: %d %v", i, len(l), e)
		}
	}
}

// P15.3: Quote and IsName.
func TestQuote(t *testing.T) {
	if s := token.Quote("a'\\\"\b\t\n\f\r\x00\x1f\x7f\u00e9/\xff"); s != "'a\\'\\\\\"\\b\\t\\n\\f\\r\\u0000\\u001f\x7f\u00e9/\xff'" {
		t.Errorf("%q", s)
	}
	if token.Quote("") != "''" {
		t.Error("of nothing")
	}
}

func TestIsName(t *testing.T) {
	for s, want := range map[string]bool{"a": true, "_": true, "Z9_": true, "\u00e9": true, "a\u00e9\U0010FFFF": true, "": false, "9": false, "a-b": false, "a ": false, " a": false, "a.b": false, "$": false, "\xff": false, "a\xff": false, "\uFFFD": true, "a\uFFFD": true, "a\x7f": false, "'a'": false, "a\x00": false, "@": false, "[": false, "`": false, "{": false, "true": true} {
		if token.IsName(s) != want {
			t.Errorf("%q", s)
		}
	}
}

// P15.4: Quote is a Text again; tokens lie one behind the other.
func TestQuoteIsAText(t *testing.T) {
	r := rand.New(rand.NewSource(1))
	signs := []string{"a", "'", "\"", "\\", "\n", "\x00", "\x1f", "\x7f", "\u00e9", "\U0001F600", "/", "u0041"}
	for range 20000 {
		s := ""
		for range r.Intn(8) {
			s += signs[r.Intn(len(signs))]
		}
		q := token.Quote(s)
		if got, e := token.Next(q, 0); e != api.OK || got != (token.Token{Kind: token.Text, S: s, To: len(q)}) {
			t.Fatalf("%q: %q %v %v", s, q, got, e)
		}
	}
}

func TestTokensLieInOrder(t *testing.T) {
	r := rand.New(rand.NewSource(2))
	signs := "ab_01-+.eE'\"\\u $@,:;?*[](){}<>!=&|#\xc3\xa9\xff"
	for range 200000 {
		b := make([]byte, r.Intn(12))
		for i := range b {
			b[i] = signs[r.Intn(len(signs))]
		}
		s := string(b)
		l, e := token.All(s)
		if e != api.OK {
			if l != nil || e != api.ErrForm {
				t.Fatalf("%q: %v", s, e)
			}
			continue
		}
		at := 0
		for _, x := range l {
			again, e := token.Next(s, at)
			if x.From < at || x.To <= x.From || strings.Trim(s[at:x.From], " ") != "" || e != api.OK || again != x || x.Kind == token.End {
				t.Fatalf("%q: %v %v", s, x, again)
			}
			if x.Kind == token.Name && (!token.IsName(x.S) || s[x.From:x.To] != x.S) || x.Kind == token.Sign && s[x.From:x.To] != x.S || !utf8.ValidString(x.S) {
				t.Fatalf("%q: %v", s, x)
			}
			at = x.To
		}
		if strings.Trim(s[at:], " ") != "" {
			t.Fatalf("%q: %q is left", s, s[at:])
		}
		if len(l) == 1 && l[0].Kind == token.Name != token.IsName(strings.Trim(s, " ")) {
			t.Fatalf("%q", s)
		}
	}
}
