package regex_test

import (
	"fmt"
	"math/rand"
	goregexp "regexp"
	"strings"
	"testing"
	"time"

	"orangery/api"
	"orangery/regex"
)

func compiled(t *testing.T, s string) *regex.Prog {
	t.Helper()
	p, e := regex.Compile(s)
	if e != api.OK || p == nil {
		t.Fatalf("%q: %v", s, e)
	}
	return p
}

// P14.1: which texts are patterns, and their sizes.
func TestCompileForm(t *testing.T) {
	for s, size := range map[string]int{
		"": 1, "a": 2, "ab": 3, "a|b": 4, "|": 2, "||a": 4, "()": 2, "(a)": 3, "(a|b)c": 6, "a*": 3, "a+": 3, "a?": 3, "(ab)*": 5, "a{3}": 5, "a{0}": 2, "a{00}": 2, "a{2,}": 5, "a{0,}": 3, "a{2,5}": 7, "a{99}": 101, "a{0,99}": 101, "a{05,5}": 7, "(a{3}|b){2}": 1 + 2*(5+2) + 1,
		"^a$": 4, "-": 2, ",": 2, "^": 2, "a-b": 4, "\x00\n": 3, "\u00e9\U0001F600": 3, "/\"'": 4, ".": 2,
		`\(\)\*\+\-\.\?\[\\\]\^\{\|\}\n\r\t`: 18, "[a]": 2, "[^a]": 2, "[a-z]": 2, "[a-a]": 2, "[-]": 2, "[--]": 2, "[-a]": 2, "[a-]": 2, "[-a-]": 2, "[^-]": 2, "[^-a-z-]": 2, "[^^]": 2, "[a^]": 2, "[.*+?(){}|]": 2, `[\]\[\-\\\^\n]`: 2, `[\--\]]`: 2, `[\n-\r]`: 2, "[a-c0-9x]": 2, "[\u00e9-\U0010FFFF]": 2, "[$,]": 2, "[a]{2}": 4, ".*": 3, "(a*)*": 5, "(()|())+": 1 + 2*(1+1) + 1,
	} {
		p, e := regex.Compile(s)
		if e != api.OK || p == nil || regex.Size(s) != size {
			t.Errorf("%q: %v, size %d, not %d", s, e, regex.Size(s), size)
		}
	}
	for _, s := range []string{
		"(", ")", "a)", "(a", "(a))", "*", "+", "?", "a**", "a*?", "a+*", "a{1}{1}", "a{1}*", "(*)", "|*", "{", "}", "a}", "]", "a]", "{1}", "a{", "a{}", "a{,}", "a{,3}", "a{1", "a{1,", "a{1,2", "a{2,1}", "a{100}", "a{1,100}", "a{001}", "a{-1}", "a{ 1}", "a{1 }", "a{a}",
		"\\", `\a`, `\d`, `\/`, `\$`, `\,`, `\ `, `\x41`, `\u0041`, "\\\u00e9", `a\`, "[", "[]", "[^]", "[a", "[^", "[]a]", "[[]", "[a[]", "[a-", "[a-b", "[b-a]", "[a-b-c]", "[a--]", "[--a]", "[---]", "[a-\\]", `[\d]`, `[\`, "[a-[]", "[a-]]", `[\]-\[]`, "\xff", "a\xc3", "[\xff]", "(\xe2\x82)",
	} {
		if p, e := regex.Compile(s); p != nil || e != api.ErrForm || regex.Size(s) != 0 {
			t.Errorf("%q: %v", s, e)
		}
	}
}

func TestCompileLimits(t *testing.T) {
	deep := func(n int) string { return strings.Repeat("(", n) + strings.Repeat(")", n) }
	for i, x := range []struct {
		s string
		e api.Errno
	}{
		{strings.Repeat("a", 300), 0}, {strings.Repeat("a", 301), 4}, {strings.Repeat("(", 301), 4}, {strings.Repeat("\xff", 301), 4}, {strings.Repeat("(", 300), 2}, {strings.Repeat("\xff", 300), 2},
		{deep(20), 0}, {deep(21), 3}, {deep(150), 3}, {deep(21) + "*", 3}, {deep(21) + "**", 2}, {deep(20) + deep(20), 0}, {"(" + deep(10) + deep(20) + ")", 3}, {deep(21) + "(((a{99}){99}){99}){99}", 3}, {"(((a{99}){99}){99}){99}", 4}, {"(((a{99}){99}){99}){99}*", 2},
		{"(a{99}){18}", 0}, {"((a{43}){43}b{9}){1}", 0}, {"((a{43}){43}b{9}){2}", 4}, {"(a{98}){20}", 4}, {strings.Repeat("a{99}", 19) + "a{99}", 4}, {strings.Repeat("a{99}", 19) + "a{98}", 0}, {strings.Repeat("a{99}", 19) + "aa{98}", 4}, {"((a{99}){99}){0}", 0},
	} {
		p, e := regex.Compile(x.s)
		if e != x.e || (p != nil) != (e == api.OK) {
			t.Errorf("%d %.40q: %v", i, x.s, e)
		}
	}
	if n := regex.Size(strings.Repeat("a{99}", 19) + "a{98}"); n != 2000 {
		t.Error(n)
	}
}

// P14.2 and P14.3: Match and Search.
func TestMatchAndSearch(t *testing.T) {
	for i, x := range []struct {
		p, t          string
		match, search bool
	}{
		{"a(b|c)*d", "ad", true, true}, {"a(b|c)*d", "abcd", true, true}, {"a(b|c)*d", "a", false, false}, {"b+", "abc", false, true}, {"", "", true, true}, {"", "a", false, true}, {"a", "", false, false}, {"a|", "", true, true}, {"|a", "a", true, true}, {"()", "", true, true},
		{".", "\n", false, false}, {".", "\r", false, false}, {".", "\u2028", true, true}, {".", "\xff", true, true}, {"..", "\xe2\x82", true, true}, {".", "\u20ac", true, true}, {".", "\xe2\x82", false, true}, {".", "\x00", true, true}, {"\x00", "\x00", true, true},
		{"[^a]", "\xff", true, true}, {"[^a]", "\n", true, true}, {"[^a]", "a", false, false}, {"[^\x00-\U0010FFFF]", "\xff", true, true}, {"[^\x00-\U0010FFFF]", "a\uFFFD", false, false}, {"[\x00-\U0010FFFF]", "\xff", false, false}, {"\uFFFD", "\xff", false, false}, {"[\uFFFD]", "\xff", false, false}, {"\uFFFD", "\uFFFD", true, true},
		{"[a-c]", "b", true, true}, {"[a-c]", "c", true, true}, {"[a-c]", "a", true, true}, {"[a-c]", "d", false, false}, {"[^a-c]", "d", true, true}, {"[-a]", "-", true, true}, {"[a-]", "-", true, true}, {"[a-]", "b", false, false}, {"[^-]", "-", false, false}, {"[--]", "-", true, true}, {"[a^]", "^", true, true}, {`[\--/]`, ".", true, true}, {`[\t\n]`, "\n", true, true}, {`\n\r\t`, "\n\r\t", true, true}, {`\.`, "a", false, false}, {`\\`, `\`, true, true}, {"[.]", "a", false, false}, {"[.]", ".", true, true},
		{"^a$", "^a$", true, true}, {"^a$", "a", false, false}, {"a{2}", "aa", true, true}, {"a{2}", "a", false, false}, {"a{2}", "aaa", false, true}, {"a{2,}", "aaaa", true, true}, {"a{2,}", "a", false, false}, {"a{1,3}", "aaa", true, true}, {"a{1,3}", "aaaa", false, true}, {"a{1,3}", "", false, false}, {"a{0}", "", true, true}, {"a{0}b", "b", true, true}, {"a{0}b", "ab", false, true}, {"a{0,0}", "a", false, true}, {"(a|b){2,3}c", "abac", true, true}, {"(a*)*b", "aaab", true, true}, {"(a*)+", "", true, true}, {"(()*)*x", "x", true, true}, {"(a?){3}", "aa", true, true}, {"(a|ab)(c|bcd)", "abcd", true, true}, {"(|a)+b", "aab", true, true}, {"a+", "aaa", true, true},
		{"\u00e9+", "\u00e9\u00e9", true, true}, {"x", "ax", false, true}, {"x.z", "aaxyzbb", false, true}, {"x.z", "aax\nzbb", false, false}, {"ab|cd", "abcd", false, true}, {"ab|cd", "cd", true, true}, {"(ab|cd)*", "abcdab", true, true},
	} {
		p := compiled(t, x.p)
		if p.Match(x.t) != x.match || p.Search(x.t) != x.search {
			t.Errorf("%d %q %q: %v %v", i, x.p, x.t, p.Match(x.t), p.Search(x.t))
		}
	}
}

// pattern is one of a source, the same as Go has it, and its size without the 1 of the first branch's.
func pattern(r *rand.Rand, depth int) (string, string, int) {
	ours, theirs, size := "", "", 0
	for i := range 1 + r.Intn(3) {
		if i > 0 {
			ours, theirs = ours+"|", theirs+"|"
		}
		size++
		for range r.Intn(4) {
			a, b, n := atom(r, depth)
			low := r.Intn(3)
			high := low + r.Intn(3)
			switch r.Intn(9) {
			case 0:
				a, b, n = a+"*", b+"*", n+1
			case 1:
				a, b, n = a+"+", b+"+", n+1
			case 2:
				a, b, n = a+"?", b+"?", n+1
			case 3:
				q := fmt.Sprintf("{%d}", low)
				a, b, n = a+q, b+q, n*low+1
			case 4:
				q := fmt.Sprintf("{%d,}", low)
				a, b, n = a+q, b+q, n*(low+1)+1
			case 5:
				q := fmt.Sprintf("{%d,%d}", low, high)
				a, b, n = a+q, b+q, n*high+1
			}
			ours, theirs, size = ours+a, theirs+b, size+n
		}
	}
	return ours, theirs, size
}

func atom(r *rand.Rand, depth int) (string, string, int) {
	switch k := r.Intn(8); {
	case k == 0 && depth > 0:
		a, b, n := pattern(r, depth-1)
		return "(" + a + ")", "(?:" + b + ")", n
	case k == 1:
		return ".", `[^\n\r]`, 1
	case k == 2:
		c := [][2]string{{"[ab]", "[ab]"}, {"[^ab]", "[^ab]"}, {"[a-c]", "[a-c]"}, {"[-a]", `[\-a]`}, {"[^a-]", `[^a\-]`}, {`[\n-\r]`, `[\n-\r]`}, {"[^\u00e9]", "[^\u00e9]"}}[r.Intn(7)]
		return c[0], c[1], 1
	case k == 3:
		c := [][2]string{{"$", `\$`}, {"^", `\^`}, {`\.`, `\.`}, {`\n`, `\n`}, {"-", "-"}}[r.Intn(5)]
		return c[0], c[1], 1
	}
	c := []string{"a", "b", "c", "\u00e9"}[r.Intn(4)]
	return c, c, 1
}

func TestAgainstAnother(t *testing.T) {
	r := rand.New(rand.NewSource(1))
	signs := []string{"a", "b", "c", "\u00e9", "\n", "\r", "-", "$", "^", ".", "\xff", "x"}
	yes := 0
	for range 20000 {
		ours, theirs, size := pattern(r, 2)
		p, e := regex.Compile(ours)
		if len(ours) > 300 || size > 2000 {
			if e != api.ErrLimit {
				t.Fatalf("%q: %v", ours, e)
			}
			continue
		}
		if e != api.OK || regex.Size(ours) != size {
			t.Fatalf("%q: %v %d, not %d", ours, e, regex.Size(ours), size)
		}
		whole := goregexp.MustCompile(`\A(?:` + theirs + `)\z`)
		part := goregexp.MustCompile(theirs)
		for range 12 {
			text := ""
			for range r.Intn(6) {
				text += signs[r.Intn(len(signs))]
			}
			match, search := p.Match(text), p.Search(text)
			if match != whole.MatchString(text) || search != part.MatchString(text) || match && !search {
				t.Fatalf("%q %q: %v %v", ours, text, match, search)
			}
			if match {
				yes++
			}
		}
	}
	if yes < 5000 {
		t.Error(yes)
	}
}

// P14.4: what Compile did not make.
func TestNone(t *testing.T) {
	for _, p := range []*regex.Prog{nil, {}} {
		for _, s := range []string{"", "a", "\xff"} {
			if p.Match(s) || p.Search(s) {
				t.Error(s)
			}
		}
	}
}

// P14.5: each call ends in a time of the pattern's size and the text's length.
func TestTime(t *testing.T) {
	begin := time.Now()
	long := strings.Repeat("a", 30000)
	for _, s := range []string{"(a*)*b", "(a|a)*b", "(a|aa)+b", "(a?){99}a{99}b", "((a{0,9}){0,9}){0,9}b", "(.*)(.*)(.*)(.*)(.*)[b]", "((((((((((a*)*)*)*)*)*)*)*)*)*)*b"} {
		p := compiled(t, s)
		if p.Match(long) || p.Search(long) {
			t.Error(s)
		}
	}
	if d := time.Since(begin); d > 20*time.Second {
		t.Error(d)
	}
}

// P1: patterns and texts of any bytes are answered.
func TestAnyBytes(t *testing.T) {
	r := rand.New(rand.NewSource(2))
	signs := "ab|()[]{}*+?^-.\\,019nd\xff\xc3\xa9"
	some := func(n int) string {
		b := make([]byte, r.Intn(n))
		for i := range b {
			b[i] = signs[r.Intn(len(signs))]
		}
		return string(b)
	}
	for range 200000 {
		s := some(9)
		p, e := regex.Compile(s)
		if e == api.OK {
			p.Match(some(5))
			p.Search(some(5))
		} else if p != nil || e != api.ErrForm && e != api.ErrLimit || regex.Size(s) != 0 {
			t.Fatalf("%q: %v", s, e)
		}
	}
}
