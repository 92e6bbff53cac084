package keys_test

import (
	"bytes"
	"math"
	"math/rand"
	"reflect"
	"slices"
	"strings"
	"testing"

	"orangery/api"
	"orangery/keys"
)

func null() keys.Part         { return keys.Part{Kind: api.Null} }
func truth(b bool) keys.Part  { return keys.Part{Kind: api.Bool, B: b} }
func text(s string) keys.Part { return keys.Part{Kind: api.Str, S: s} }
func whole(i int) keys.Part   { return keys.Part{Kind: 9, I: i} }
func num(neg bool, digits string, exp int) keys.Part {
	return keys.Part{Kind: api.Num, N: api.Dec{Neg: neg, Digits: digits, Exp: exp}}
}

// P9.1: Encode.
func TestEncode(t *testing.T) {
	forty := strings.Repeat("9", 40)
	for i, x := range []struct {
		l []keys.Part
		b string
	}{
		{nil, ""}, {[]keys.Part{null()}, "\x10"}, {[]keys.Part{truth(false), truth(true)}, "\x20\x21"}, {[]keys.Part{num(false, "", 0)}, "1"},
		{[]keys.Part{num(false, "15", -1)}, "2\x03\xe9\x02\x06\x00"}, {[]keys.Part{num(true, "15", -1)}, "0\xfc\x16\xfd\xf9\xff"}, {[]keys.Part{num(false, "109", 0)}, "2\x03\xeb\x02\x01\x0a\x00"}, {[]keys.Part{num(false, "1", 399)}, "2\x05\x78\x02\x00"}, {[]keys.Part{num(false, "1", -401)}, "2\x02\x58\x02\x00"}, {[]keys.Part{num(true, forty, -440)}, "0\xfd\xa7" + strings.Repeat("\xf5", 40) + "\xff"},
		{[]keys.Part{text("")}, "@\x00\x00"}, {[]keys.Part{text("a\x00\xffb")}, "@a\x00\xff\xffb\x00\x00"}, {[]keys.Part{whole(0), whole(0x01020304), whole(math.MaxUint32)}, "P\x00\x00\x00\x00P\x01\x02\x03\x04P\xff\xff\xff\xff"},
		{[]keys.Part{text("x"), null(), whole(1)}, "@x\x00\x00\x10P\x00\x00\x00\x01"}, {slices.Repeat([]keys.Part{null()}, 16), strings.Repeat("\x10", 16)},
	} {
		b, e := keys.Encode(x.l)
		if string(b) != x.b || e != api.OK {
			t.Errorf("%d: %q %v", i, b, e)
		}
		if l, e := keys.Decode([]byte(x.b)); e != api.OK || !(len(l) == 0 && len(x.l) == 0) && !reflect.DeepEqual(l, x.l) {
			t.Errorf("%d back: %v %v", i, l, e)
		}
	}
}

func TestEncodeErrors(t *testing.T) {
	for i, p := range []keys.Part{
		{Kind: -1}, {Kind: 4}, {Kind: 5}, {Kind: 8}, {Kind: 10}, {Kind: math.MaxInt}, {Kind: math.MinInt}, whole(-1), whole(math.MaxUint32 + 1), whole(math.MinInt), whole(math.MaxInt),
		num(false, "10", 0), num(true, "", 0), num(false, "1", 400), num(false, "x", 0), num(false, strings.Repeat("1", 41), 0),
		{B: true}, {S: "x"}, {I: 1}, {N: api.Dec{Digits: "1"}}, {Kind: api.Bool, I: 1}, {Kind: api.Str, B: true}, {Kind: api.Num, S: "1"}, {Kind: keys.Whole, S: "1"}, {Kind: api.Str, N: api.Dec{Exp: 1}},
	} {
		if b, e := keys.Encode([]keys.Part{null(), p}); b != nil || e != api.ErrArg {
			t.Errorf("%d: %q %v", i, b, e)
		}
	}
	many := slices.Repeat([]keys.Part{{Kind: 7}}, 17)
	if b, e := keys.Encode(many); b != nil || e != api.ErrLimit {
		t.Error(b, e)
	}
	if b, e := keys.Encode([]keys.Part{text("\xff\xed\xa0")}); string(b) != "@\xff\xed\xa0\x00\x00" || e != api.OK {
		t.Error("any text may be", b, e)
	}
}

// P9.2: Decode.
func TestDecodeErrors(t *testing.T) {
	for i, x := range []struct {
		b string
		e api.Errno
	}{
		{"\x00", 2}, {"\x11", 2}, {"\x22", 2}, {"\xff", 2}, {"\x10\x33", 2}, {"P", 2}, {"P\x00\x00\x00", 2}, {"@", 2}, {"@a", 2}, {"@a\x00", 2}, {"@a\x00\x01\x00\x00", 2}, {"@\x00\xff", 2}, {"@\x00\xff\x00", 2},
		{"2", 2}, {"2\x03", 2}, {"2\x03\xe9", 2}, {"2\x03\xe9\x02", 2}, {"2\x03\xe9\x00", 2}, {"2\x03\xe9\x01\x02\x00", 2}, {"2\x03\xe9\x02\x01\x00", 2}, {"2\x03\xe9\x0b\x00", 2}, {"2\x03\xe9\xff\x00", 2}, {"2\x05\x79\x02\x00", 2}, {"2\x02\x57\x02\x00", 2}, {"2\x00\x00\x02\x00", 2}, {"2\xff\xff\x02\x00", 2}, {"2\x03\xe9" + strings.Repeat("\x02", 41) + "\x00", 2},
		{"0", 2}, {"0\xfc\x16", 2}, {"0\xfc\x16\xfd", 2}, {"0\xfc\x16\xfd\x00", 2}, {"0\xfc\x16\xff", 2}, {"0\xfc\x16\xfe\xfd\xff", 2}, {"0\x00\x00\xfd\xff", 2},
		{strings.Repeat("\x10", 17), 4}, {strings.Repeat("\x10", 17) + "\x00", 4}, {strings.Repeat("\x10", 16) + "\x00", 2}, {strings.Repeat("\x10", 16) + "@a", 2}, {"\x00" + strings.Repeat("\x10", 17), 2}, {strings.Repeat("1", 100000), 4},
	} {
		if l, e := keys.Decode([]byte(x.b)); l != nil || e != x.e {
			t.Errorf("%d: %v %v", i, l, e)
		}
	}
	if l, e := keys.Decode(nil); len(l) != 0 || e != api.OK {
		t.Error(l, e)
	}
}

func TestDecodeIsEncoded(t *testing.T) {
	source := rand.New(rand.NewSource(1))
	marks := "\x00\x01\x02\x03\x0a\x0b\x10\x20\x21012@P\xe8\xe9\xfc\xfd\xfe\xff"
	for range 300000 {
		b := make([]byte, source.Intn(10))
		for i := range b {
			b[i] = marks[source.Intn(len(marks))]
		}
		l, e := keys.Decode(b)
		if e == api.OK {
			if again, e := keys.Encode(l); e != api.OK || !bytes.Equal(again, b) {
				t.Fatalf("%q: %v, %q", b, l, again)
			}
		} else if e != api.ErrForm || l != nil {
			t.Fatalf("%q: %v", b, e)
		}
	}
}

// P9.3: Order.
func TestOrder(t *testing.T) {
	rising := [][]keys.Part{
		nil, {null()}, {null(), null()}, {null(), whole(3)}, {truth(false)}, {truth(true)}, {num(true, "1", 300)}, {num(true, "2", 0)}, {num(true, "15", -1)}, {num(true, "1", 0)}, {num(true, "5", -1)}, {num(true, "5", -300)}, {num(false, "", 0)}, {num(false, "5", -300)}, {num(false, "5", -1)}, {num(false, "1", 0)}, {num(false, "15", -1)}, {num(false, "2", 0)}, {num(false, "1", 1)}, {num(false, "1", 300)},
		{text("")}, {text(""), null()}, {text("\x00")}, {text("\x00\x00")}, {text("\x00\xff")}, {text("\x01")}, {text("a")}, {text("a"), whole(5)}, {text("a\x00")}, {text("ab")}, {text("b")}, {text("\xc3\xa9")}, {text("\xff")}, {whole(0)}, {whole(1)}, {whole(256)}, {whole(math.MaxUint32)},
	}
	for i, a := range rising {
		for k, b := range rising {
			want := min(1, max(-1, i-k))
			if n := keys.Order(a, b); n != want {
				t.Errorf("%v %v: %d", a, b, n)
			}
			x, _ := keys.Encode(a)
			y, _ := keys.Encode(b)
			if bytes.Compare(x, y) != want {
				t.Errorf("%q %q", x, y)
			}
		}
	}
	for i, x := range []struct {
		a, b []keys.Part
		n    int
	}{
		{[]keys.Part{{S: "a", B: true}}, []keys.Part{{S: "b"}}, 0}, {[]keys.Part{{Kind: 7, I: 3}}, []keys.Part{{Kind: 7, I: 1}}, 0}, {[]keys.Part{{Kind: -3}}, []keys.Part{{}}, -1}, {[]keys.Part{{Kind: 100}}, []keys.Part{{Kind: 9}}, 1}, {[]keys.Part{whole(-5)}, []keys.Part{whole(math.MinInt)}, 1},
		{[]keys.Part{num(false, "10", 0), whole(1)}, []keys.Part{num(false, "3", 0), whole(2)}, -1}, {[]keys.Part{{Kind: api.Str, S: "a", I: 5}, null()}, []keys.Part{{Kind: api.Str, S: "a", I: 3}}, 1}, {[]keys.Part{{Kind: api.Bool, S: "z"}}, []keys.Part{{Kind: api.Bool, B: true}}, -1},
	} {
		if n := keys.Order(x.a, x.b); n != x.n {
			t.Errorf("%d: %d", i, n)
		}
	}
}

// P9.4: Scalar and After.
func TestScalar(t *testing.T) {
	n := api.Dec{Digits: "1"}
	for i, x := range []struct {
		v  api.Val
		p  keys.Part
		ok bool
	}{
		{api.Val{}, null(), true}, {api.Val{Kind: api.Bool, B: true}, truth(true), true}, {api.Val{Kind: api.Num, N: n}, keys.Part{Kind: api.Num, N: n}, true}, {api.Val{Kind: api.Str, S: "\xff"}, text("\xff"), true},
		{api.Val{Kind: api.Arr}, keys.Part{}, false}, {api.Val{Kind: api.Obj}, keys.Part{}, false}, {api.Val{Kind: 9, S: "x"}, keys.Part{}, false}, {api.Val{Kind: -1}, keys.Part{}, false},
	} {
		if p, ok := keys.Scalar(x.v); p != x.p || ok != x.ok {
			t.Errorf("%d: %v %v", i, p, ok)
		}
	}
}

func TestAfter(t *testing.T) {
	for b, want := range map[string]string{"": "", "\xff": "", "\xff\xff": "", "a": "b", "a\xff": "b", "a\xff\xffb\xff": "a\xff\xffc", "\x00": "\x01", "a\xfe": "a\xff", "ab": "ac"} {
		in := []byte(b)
		got := keys.After(in)
		if string(got) != want || (want == "") != (got == nil) || string(in) != b {
			t.Errorf("%q: %q", b, got)
		}
	}
	// It is above all that begin by b, and no less bytes are.
	source := rand.New(rand.NewSource(2))
	some := func() []byte {
		b := make([]byte, source.Intn(4))
		for i := range b {
			b[i] = byte(253 + source.Intn(3))
		}
		return b
	}
	for range 20000 {
		b, x := some(), some()
		after := keys.After(b)
		above := bytes.Compare(x, b) > 0 && !bytes.HasPrefix(x, b)
		if after == nil && above || after != nil && above != (bytes.Compare(x, after) >= 0) {
			t.Fatalf("%q %q: %q", b, x, after)
		}
	}
}

// P9.5: the bytes are in the order of the parts; what is encoded is decoded to itself.
func TestOrderOfBytes(t *testing.T) {
	source := rand.New(rand.NewSource(3))
	some := func() []keys.Part {
		l := []keys.Part{}
		for range source.Intn(4) {
			texts := []string{"", "\x00", "\x00\x00", "a", "a\x00", "\xff", "a\xff", "\x01"}
			digits := []string{"1", "2", "11", "12", "101", "9"}
			switch source.Intn(6) {
			case 0:
				l = append(l, null())
			case 1:
				l = append(l, truth(source.Intn(2) == 0))
			case 2, 3:
				l = append(l, num(source.Intn(2) == 0, digits[source.Intn(len(digits))], source.Intn(5)-2))
			case 4:
				l = append(l, text(texts[source.Intn(len(texts))]))
			case 5:
				l = append(l, whole(source.Intn(3)*255))
			}
		}
		return l
	}
	for range 200000 {
		a, b := some(), some()
		x, e := keys.Encode(a)
		y, f := keys.Encode(b)
		if e != api.OK || f != api.OK || bytes.Compare(x, y) != keys.Order(a, b) {
			t.Fatalf("%v %v: %q %q", a, b, x, y)
		}
		if l, e := keys.Decode(x); e != api.OK || !reflect.DeepEqual(l, a) {
			t.Fatalf("%v: %v", a, l)
		}
	}
}
