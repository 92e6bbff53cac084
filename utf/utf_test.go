package utf_test

import (
	"bytes"
	"encoding/json"
	"math/rand"
	"strconv"
	"strings"
	"testing"
	"unicode/utf8"

	"orangery/utf"
)

// samples are bytes of all kinds: characters, pieces of them, and what is none.
func samples() []string {
	out := []string{"", "a", "\x00", "\x7f", "\x80", "\xbf", "\xc0\x80", "\xc1\xbf", "\xc2\x80", "\xdf\xbf", "\xe0\x9f\xbf", "\xe0\xa0\x80", "\xed\x9f\xbf", "\xed\xa0\x80", "\xed\xbf\xbf", "\xee\x80\x80", "\xef\xbf\xbf", "\xf0\x8f\xbf\xbf", "\xf0\x90\x80\x80", "\xf4\x8f\xbf\xbf", "\xf4\x90\x80\x80", "\xf5\x80\x80\x80", "\xf8\x88\x80\x80\x80", "\xff", "\xc3", "\xe2\x82", "\xf0\x9f\x98", "\xc3a", "\xe2\x82a", "\xf0\x9f\x98a"}
	source := rand.New(rand.NewSource(1))
	leads := []byte{0, 'a', 0x7F, 0x80, 0xBF, 0xC2, 0xC3, 0xE0, 0xE2, 0xED, 0xEF, 0xF0, 0xF4, 0xF5, 0xFF, 0x90, 0x9F, 0xA0}
	for i := 0; i < 20000; i++ {
		b := make([]byte, source.Intn(7))
		for k := range b {
			b[k] = leads[source.Intn(len(leads))]
		}
		out = append(out, string(b))
	}
	return out
}

// P1.1: Next tells each character by its own bytes and nothing of all else.
func TestNextOfEachCharacter(t *testing.T) {
	for r := rune(0); r <= 0x10FFFF; r++ {
		if r >= 0xD800 && r <= 0xDFFF {
			continue
		}
		b := append(utf8.AppendRune(nil, r), 'x')
		if got, n := utf.Next(b); got != r || n != len(b)-1 {
			t.Fatalf("%x: %x %d", r, got, n)
		}
		if got, n := utf.Next(b[:len(b)-2]); len(b) > 2 && (got != 0 || n != 0) {
			t.Fatalf("%x without its last byte: %x %d", r, got, n)
		}
	}
}

func TestNextCheckCountOfBytes(t *testing.T) {
	for _, s := range samples() {
		b := []byte(s)
		want, n := utf8.DecodeRune(b)
		if want == utf8.RuneError && n < 2 {
			want, n = 0, 0
		}
		if r, m := utf.Next(b); r != want || m != n {
			t.Fatalf("Next %q: %x %d", s, r, m)
		}
		if count := utf.Count(s); count != utf8.RuneCountInString(s) {
			t.Fatalf("Count %q: %d", s, count)
		}
		at := -1
		for i, r := range s {
			if _, n := utf8.DecodeRuneInString(s[i:]); r == utf8.RuneError && n == 1 {
				at = i
				break
			}
		}
		if got := utf.Check(b); got != at {
			t.Fatalf("Check %q: %d, not %d", s, got, at)
		}
	}
	if r, n := utf.Next(nil); r != 0 || n != 0 {
		t.Error("Next of nil")
	}
	if utf.Check(nil) != -1 {
		t.Error("Check of nil")
	}
}

// P1.2: Put lays a character's bytes behind b, and those of 0xFFFD of what is none.
func TestPut(t *testing.T) {
	for _, r := range []rune{-1 << 31, -1, 0, 1, 0x7F, 0x80, 0x7FF, 0x800, 0xD7FF, 0xD800, 0xDBFF, 0xDC00, 0xDFFF, 0xE000, 0xFFFD, 0xFFFF, 0x10000, 0x10FFFF, 0x110000, 1<<31 - 1} {
		for _, b := range []string{"", "ab"} {
			if got := utf.Put([]byte(b), r); string(got) != b+string(utf8.AppendRune(nil, r)) {
				t.Errorf("%x behind %q: %q", r, b, got)
			}
		}
	}
	if got := utf.Put(nil, 'x'); string(got) != "x" {
		t.Errorf("behind nil: %q", got)
	}
}

func TestPutLeavesWhatIsHandedIn(t *testing.T) {
	whole := []byte("abcdef")
	one, two := utf.Put(whole[:2], 0x20AC), utf.Put(whole[:2], 'z')
	if string(whole) != "abcdef" || string(one) != "ab\u20ac" || string(two) != "abz" {
		t.Errorf("%q %q %q", whole, one, two)
	}
}

// P1.3: Quote.
func TestQuote(t *testing.T) {
	for c := 0; c < 256; c++ {
		s := "x" + string([]byte{byte(c)}) + "y"
		want := s
		switch {
		case c == '"' || c == '\\':
			want = "x\\" + string(rune(c)) + "y"
		case c == 8, c == 9, c == 10, c == 12, c == 13:
			want = "x\\" + string("btn fr"[c-8]) + "y"
		case c < 32:
			want = "x\\u00" + string("01"[c/16]) + string("0123456789abcdef"[c%16]) + "y"
		}
		if got := utf.Quote(s); got != "\""+want+"\"" {
			t.Errorf("%d: %q", c, got)
		}
	}
	if utf.Quote("") != `""` || utf.Quote("\u00e9/\x7f\u2028") != "\"\u00e9/\x7f\u2028\"" {
		t.Error("what is itself")
	}
}

func TestQuoteIsReadAgain(t *testing.T) {
	for _, s := range samples() {
		var back string
		if !utf8.ValidString(s) {
			continue
		}
		if err := json.Unmarshal([]byte(utf.Quote(s)), &back); err != nil || back != s {
			t.Fatalf("%q: %q %v", s, back, err)
		}
	}
}

// P1.4: Escape.
func TestEscapeNumbers(t *testing.T) {
	for r := rune(0); r < 0x10000; r++ {
		text := strconv.FormatInt(int64(r), 16)
		text = "u" + strings.Repeat("0", 4-len(text)) + text
		want, n := r, 5
		if r >= 0xD800 && r <= 0xDFFF {
			want, n = 0, 0
		}
		for _, s := range []string{text, "u" + strings.ToUpper(text[1:]) + "0"} {
			if got, m := utf.Escape([]byte(s)); got != want || m != n {
				t.Fatalf("%q: %x %d", s, got, m)
			}
		}
	}
}

func TestEscape(t *testing.T) {
	for _, x := range []struct {
		s string
		r rune
		n int
	}{
		{`"x`, '"', 1}, {`\`, '\\', 1}, {"/", '/', 1}, {"b", 8, 1}, {"f", 12, 1}, {"n", 10, 1}, {"r", 13, 1}, {"t", 9, 1},
		{"", 0, 0}, {"'", 0, 0}, {"a", 0, 0}, {"B", 0, 0}, {"v", 0, 0}, {"0", 0, 0}, {"\xff", 0, 0}, {"u", 0, 0}, {"u123", 0, 0}, {"u12 4", 0, 0}, {"u12:4", 0, 0}, {"u12/4", 0, 0}, {"u@123", 0, 0}, {"uG123", 0, 0}, {"u`123", 0, 0}, {"ug123", 0, 0}, {"U1234", 0, 0}, {"u+123", 0, 0},
		{`uD800\uDC00`, 0x10000, 11}, {`udbff\udfff`, 0x10FFFF, 11}, {`uD83D\ude00x`, 0x1F600, 11},
		{`uD800`, 0, 0}, {`uD800\`, 0, 0}, {`uD800\u`, 0, 0}, {`uD800\uDC0`, 0, 0}, {`uD800\uDBFF`, 0, 0}, {`uD800\uE000`, 0, 0}, {`uD800\U0000`, 0, 0}, {`uD800xuDC00`, 0, 0}, {`uD800uDC00`, 0, 0}, {`uDC00\uD800`, 0, 0}, {`uDFFF`, 0, 0},
		{`uD7FF\uDC00`, 0xD7FF, 5}, {`uE000`, 0xE000, 5},
	} {
		if r, n := utf.Escape([]byte(x.s)); r != x.r || n != x.n {
			t.Errorf("%q: %x %d", x.s, r, n)
		}
	}
	if r, n := utf.Escape(nil); r != 0 || n != 0 {
		t.Error("nil")
	}
}

// ranks are a text's characters as numbers, a byte that begins none above all of these.
func ranks(s string) []int {
	var out []int
	for s != "" {
		r, n := utf8.DecodeRuneInString(s)
		if r == utf8.RuneError && n == 1 {
			out = append(out, 0x200000+int(s[0]))
		} else {
			out = append(out, int(r))
		}
		s = s[n:]
	}
	return out
}

func ahead(a, b []int) bool {
	for i := range b {
		if i == len(a) {
			return true
		}
		if a[i] != b[i] {
			return a[i] < b[i]
		}
	}
	return false
}

// P1.5: Less, by characters.
func TestLess(t *testing.T) {
	all := samples()
	for i := range all {
		for _, k := range []int{i, (i * 7) % len(all), (i + 1) % len(all), i % 30} {
			if got := utf.Less(all[i], all[k]); got != ahead(ranks(all[i]), ranks(all[k])) {
				t.Fatalf("%q %q: %v", all[i], all[k], got)
			}
		}
	}
	for _, x := range []struct {
		a, b string
		less bool
	}{{"\xff", "\u00e9", false}, {"\u00e9", "\xff", true}, {"\x80", "\x81", true}, {"\xc3", "\xc3\xa9", false}, {"\xc3\xa9", "\xc3", true}, {"\U0010FFFF", "\x80", true}, {"a\xff", "ab", false}, {"", "", false}, {"", "\x00", true}} {
		if utf.Less(x.a, x.b) != x.less {
			t.Errorf("%q %q", x.a, x.b)
		}
	}
}

// P1.6: what Put lays is read by Next; of texts of characters Less is the order of bytes.
func TestPutIsRead(t *testing.T) {
	for r := rune(0); r <= 0x10FFFF; r += 7 {
		b := utf.Put(nil, r)
		want := r
		if !utf8.ValidRune(r) {
			want = 0xFFFD
		}
		if got, n := utf.Next(b); got != want || n != len(b) {
			t.Fatalf("%x: %x %d", r, got, n)
		}
	}
}

func TestLessIsTheOrderOfBytes(t *testing.T) {
	var texts []string
	for _, s := range samples() {
		if utf.Check([]byte(s)) < 0 {
			texts = append(texts, s)
		}
	}
	for i := range texts {
		a, b := texts[i], texts[(i*13+5)%len(texts)]
		if utf.Less(a, b) != (bytes.Compare([]byte(a), []byte(b)) < 0) {
			t.Fatalf("%q %q", a, b)
		}
	}
}
