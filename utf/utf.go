// Package utf is layer 1, characters and bytes: see shared/doc/01-utf.md.
package utf

import "strings"

const (
	greatest = 0x10FFFF // the greatest character
	instead  = 0xFFFD   // what is laid of no character
)

// form is what the bytes of one kind of character may be: the first one from lead to last, the second one from low to high, all behind it 0x80 to 0xBF.
type form struct {
	lead, last byte
	size       int
	low, high  byte
}

// forms are those of more than one byte. What the second byte may be keeps out characters written longer than needed, those of 0xD800 to 0xDFFF, and those above the greatest.
var forms = [8]form{
	{0xC2, 0xDF, 2, 0x80, 0xBF},
	{0xE0, 0xE0, 3, 0xA0, 0xBF},
	{0xE1, 0xEC, 3, 0x80, 0xBF},
	{0xED, 0xED, 3, 0x80, 0x9F},
	{0xEE, 0xEF, 3, 0x80, 0xBF},
	{0xF0, 0xF0, 4, 0x90, 0xBF},
	{0xF1, 0xF3, 4, 0x80, 0xBF},
	{0xF4, 0xF4, 4, 0x80, 0x8F},
}

// Next is the character with which bytes begin, and how many they are.
func Next(b []byte) (rune, int) { return next(b) }

func next[T string | []byte](b T) (rune, int) {
	if len(b) == 0 {
		return 0, 0
	}
	if b[0] < 0x80 {
		return rune(b[0]), 1
	}
	for _, f := range forms {
		if b[0] < f.lead || b[0] > f.last {
			continue
		}
		if len(b) < f.size || b[1] < f.low || b[1] > f.high {
			return 0, 0
		}
		r := rune(b[0]) & (1<<(7-f.size) - 1)
		for i := 1; i < f.size; i++ {
			if b[i]&0xC0 != 0x80 {
				return 0, 0
			}
			r = r<<6 | rune(b[i]&0x3F)
		}
		return r, f.size
	}
	return 0, 0
}

// Check is the place of the first byte that begins no character.
func Check(b []byte) int {
	for i := 0; i < len(b); {
		_, n := next(b[i:])
		if n == 0 {
			return i
		}
		i += n
	}
	return -1
}

// Put lays a character's bytes.
func Put(b []byte, r rune) []byte {
	if !character(r) {
		r = instead
	}
	size := sizeOf(r)
	// New memory, so that two calls with one b don't write to what lies behind it.
	out := make([]byte, len(b)+size)
	end := copy(out, b)
	if size == 1 {
		out[end] = byte(r)
		return out
	}
	for i := size - 1; i > 0; i-- {
		out[end+i] = 0x80 | byte(r&0x3F)
		r >>= 6
	}
	out[end] = leadOf(size) | byte(r)
	return out
}

// leadOf are the high bits of the first byte of a form.
func leadOf(size int) byte { return byte(0xF0) << (4 - size) }

func character(r rune) bool {
	return r >= 0 && r <= greatest && (r < 0xD800 || r > 0xDFFF)
}

func sizeOf(r rune) int {
	switch {
	case r < 0x80:
		return 1
	case r < 0x800:
		return 2
	case r < 0x10000:
		return 3
	}
	return 4
}

// Count is how many characters a text has.
func Count(s string) int {
	count := 0
	for s != "" {
		_, n := next(s)
		s = s[max(n, 1):]
		count++
	}
	return count
}

// Quote is a text in signs.
func Quote(s string) string {
	var out strings.Builder
	out.Grow(len(s) + 2)
	out.WriteByte('"')
	for i := 0; i < len(s); i++ {
		c := s[i]
		switch {
		case c == '"' || c == '\\':
			out.WriteByte('\\')
			out.WriteByte(c)
		case c >= 32:
			out.WriteByte(c)
		case letterOf(c) != 0:
			out.WriteByte('\\')
			out.WriteByte(letterOf(c))
		default:
			out.WriteString("\\u00")
			out.WriteByte('0' + c>>4)
			out.WriteByte("0123456789abcdef"[c&15])
		}
	}
	out.WriteByte('"')
	return out.String()
}

// letterOf is what stands behind a backslash for a character; 0: it has no letter.
func letterOf(c byte) byte {
	switch c {
	case 8:
		return 'b'
	case 9:
		return 't'
	case 10:
		return 'n'
	case 12:
		return 'f'
	case 13:
		return 'r'
	}
	return 0
}

// Escape is what stands behind a backslash, and how many bytes that is.
func Escape(b []byte) (rune, int) {
	if len(b) == 0 {
		return 0, 0
	}
	switch c := b[0]; c {
	case '"', '/', '\\':
		return rune(c), 1
	case 'b':
		return 8, 1
	case 'f':
		return 12, 1
	case 'n':
		return 10, 1
	case 'r':
		return 13, 1
	case 't':
		return 9, 1
	}
	return escapeNumber(b)
}

// escapeNumber reads u and four digits, or two such that are halves of one character.
func escapeNumber(b []byte) (rune, int) {
	high, ok := digits(b)
	if !ok || high >= 0xDC00 && high <= 0xDFFF {
		return 0, 0
	}
	if high < 0xD800 || high > 0xDFFF {
		return high, 5
	}
	if len(b) < 6 || b[5] != '\\' {
		return 0, 0
	}
	low, ok := digits(b[6:])
	if !ok || low < 0xDC00 || low > 0xDFFF {
		return 0, 0
	}
	return 0x10000 + (high-0xD800)<<10 + (low - 0xDC00), 11
}

// digits reads u and four digits of sixteen.
func digits(b []byte) (rune, bool) {
	if len(b) < 5 || b[0] != 'u' {
		return 0, false
	}
	var r rune
	for _, c := range b[1:5] {
		switch {
		case c >= '0' && c <= '9':
			r = r<<4 | rune(c-'0')
		case c >= 'a' && c <= 'f':
			r = r<<4 | rune(c-'a'+10)
		case c >= 'A' && c <= 'F':
			r = r<<4 | rune(c-'A'+10)
		default:
			return 0, false
		}
	}
	return r, true
}

// Less: is a text ahead of another one?
func Less(a, b string) bool {
	for a != "" && b != "" {
		x, n := rank(a)
		y, m := rank(b)
		if x != y {
			return x < y
		}
		a, b = a[n:], b[m:]
	}
	return b != ""
}

// rank is the order of what a text begins with, and how many bytes that is: a byte that begins no character is above all of these.
func rank(s string) (rune, int) {
	r, n := next(s)
	if n == 0 {
		return greatest + 1 + rune(s[0]), 1
	}
	return r, n
}
