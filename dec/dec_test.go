package dec_test

import (
	"math"
	"math/big"
	"math/rand"
	"regexp"
	"strconv"
	"strings"
	"testing"

	"orangery/api"
	"orangery/dec"
)

func number(neg bool, digits string, exp int) api.Dec {
	return api.Dec{Neg: neg, Digits: digits, Exp: exp}
}

// rat is a number as a fraction.
func rat(d api.Dec) *big.Rat {
	n, _ := new(big.Int).SetString("0"+d.Digits, 10)
	power := new(big.Int).Exp(big.NewInt(10), big.NewInt(int64(max(d.Exp, -d.Exp))), nil)
	r := new(big.Rat).SetInt(n)
	if d.Exp < 0 {
		r.Quo(r, new(big.Rat).SetInt(power))
	} else {
		r.Mul(r, new(big.Rat).SetInt(power))
	}
	if d.Neg {
		r.Neg(r)
	}
	return r
}

// some is a number that may be.
func some(source *rand.Rand) api.Dec {
	n := source.Intn(5)
	if source.Intn(4) == 0 {
		n = source.Intn(41)
	}
	if n == 0 {
		return api.Dec{}
	}
	b := make([]byte, n)
	for i := range b {
		b[i] = byte('0' + source.Intn(10))
	}
	b[0], b[n-1] = byte('1'+source.Intn(9)), byte('1'+source.Intn(9))
	exp := source.Intn(12) - 8
	if source.Intn(5) == 0 {
		exp = source.Intn(801) - 400 - n
	}
	return number(source.Intn(2) == 0, string(b), exp)
}

// P2.1: what a number may be.
func TestSane(t *testing.T) {
	forty := strings.Repeat("7", 40)
	for _, x := range []struct {
		d    api.Dec
		sane bool
	}{
		{api.Dec{}, true}, {number(true, "", 0), false}, {number(false, "", 1), false}, {number(false, "0", 0), false},
		{number(false, "1", 0), true}, {number(true, "1", 0), true}, {number(false, "10", 0), false}, {number(false, "01", 0), false}, {number(false, "101", 0), true},
		{number(false, "1a1", 0), false}, {number(false, "-1", 0), false}, {number(false, "+1", 0), false}, {number(false, "1.5", 0), false}, {number(false, " 1", 0), false}, {number(false, "/1", 0), false}, {number(false, "1:", 0), false},
		{number(false, forty, 0), true}, {number(false, forty+"7", 0), false},
		{number(false, "1", 399), true}, {number(false, "1", 400), false}, {number(false, "1", -401), true}, {number(false, "1", -402), false},
		{number(false, forty, 360), true}, {number(false, forty, 361), false}, {number(false, forty, -440), true}, {number(false, forty, -441), false},
		{number(false, "1", math.MaxInt), false}, {number(false, "1", math.MinInt), false}, {number(false, "\xff", 0), false},
	} {
		if dec.Sane(x.d) != x.sane {
			t.Errorf("%v", x.d)
		}
	}
}

func TestParse(t *testing.T) {
	for _, x := range []struct {
		s string
		d api.Dec
		e api.Errno
	}{
		{"0", api.Dec{}, 0}, {"-0", api.Dec{}, 0}, {"-0.000e-5", api.Dec{}, 0}, {"0e99999999999999999999", api.Dec{}, 0}, {"1", number(false, "1", 0), 0}, {"-1.50e2", number(true, "15", 1), 0},
		{"100", number(false, "1", 2), 0}, {"0.00100", number(false, "1", -3), 0}, {"10.01", number(false, "1001", -2), 0}, {"1E+2", number(false, "1", 2), 0}, {"1e-02", number(false, "1", -2), 0}, {"1e000", number(false, "1", 0), 0},
		{"", api.Dec{}, 2}, {"-", api.Dec{}, 2}, {"+1", api.Dec{}, 2}, {"01", api.Dec{}, 2}, {"00", api.Dec{}, 2}, {"-01", api.Dec{}, 2}, {".5", api.Dec{}, 2}, {"1.", api.Dec{}, 2}, {"1.e1", api.Dec{}, 2}, {"1e", api.Dec{}, 2}, {"1e+", api.Dec{}, 2}, {"1e+-1", api.Dec{}, 2}, {"1 ", api.Dec{}, 2}, {" 1", api.Dec{}, 2}, {"1e1.5", api.Dec{}, 2}, {"--1", api.Dec{}, 2}, {"1x", api.Dec{}, 2}, {"Inf", api.Dec{}, 2}, {"0x1", api.Dec{}, 2}, {"1_0", api.Dec{}, 2}, {"\xff", api.Dec{}, 2}, {"1\x00", api.Dec{}, 2},
		{"1e399", number(false, "1", 399), 0}, {"1e400", api.Dec{}, 4}, {"1e-401", number(false, "1", -401), 0}, {"1e-402", api.Dec{}, 4}, {"1e99999999999999999999", api.Dec{}, 4}, {"-1e-99999999999999999999", api.Dec{}, 4}, {"1e9223372036854775807", api.Dec{}, 4}, {"1e-9223372036854775809", api.Dec{}, 4},
		{strings.Repeat("7", 40), number(false, strings.Repeat("7", 40), 0), 0}, {strings.Repeat("7", 41), api.Dec{}, 4}, {"1" + strings.Repeat("0", 399), number(false, "1", 399), 0}, {"1" + strings.Repeat("0", 400), api.Dec{}, 4},
		{"0." + strings.Repeat("0", 900) + "1e901", number(false, "1", 0), 0}, {"1" + strings.Repeat("0", 900) + "e-900", number(false, "1", 0), 0},
		{"0." + strings.Repeat("0", 998), api.Dec{}, 0}, {"0." + strings.Repeat("0", 999), api.Dec{}, 4}, {strings.Repeat("x", 1000), api.Dec{}, 2}, {strings.Repeat("x", 1001), api.Dec{}, 4},
	} {
		if d, e := dec.Parse(x.s); d != x.d || e != x.e {
			t.Errorf("%.50q: %v %v", x.s, d, e)
		}
	}
}

func TestParseOfAllShortTexts(t *testing.T) {
	form := regexp.MustCompile(`^-?(0|[1-9][0-9]*)(\.[0-9]+)?([eE][+-]?[0-9]+)?$`)
	signs := "01-+.eE"
	var all func(s string)
	all = func(s string) {
		d, e := dec.Parse(s)
		if e == api.ErrForm == form.MatchString(s) || e != api.OK && e != api.ErrForm && e != api.ErrLimit {
			t.Fatalf("%q: %v", s, e)
		}
		if e == api.OK {
			want, _ := new(big.Rat).SetString(s)
			if !dec.Sane(d) || rat(d).Cmp(want) != 0 {
				t.Fatalf("%q: %v", s, d)
			}
		} else if d != (api.Dec{}) {
			t.Fatalf("%q: %v beside an error", s, d)
		}
		for i := range signs {
			if len(s) < 6 {
				all(s + signs[i:i+1])
			}
		}
	}
	all("")
}

// P2.2: Print.
func TestPrint(t *testing.T) {
	for _, x := range []struct {
		d api.Dec
		s string
	}{
		{api.Dec{}, "0"}, {number(true, "15", 1), "-150"}, {number(false, "1", 20), "1" + strings.Repeat("0", 20)}, {number(false, "1", 21), "1e+21"}, {number(false, "12", 20), "1.2e+21"},
		{number(false, strings.Repeat("7", 21), 0), strings.Repeat("7", 21)}, {number(false, strings.Repeat("7", 22), 0), "7." + strings.Repeat("7", 21) + "e+21"}, {number(false, strings.Repeat("7", 22), -1), strings.Repeat("7", 21) + ".7"},
		{number(false, "15", -1), "1.5"}, {number(false, "15", -2), "0.15"}, {number(false, "1", -6), "0.000001"}, {number(true, "123", -8), "-0.00000123"}, {number(false, "1", -7), "1e-7"}, {number(false, "123", -9), "1.23e-7"}, {number(false, "1", 399), "1e+399"}, {number(false, "1", -401), "1e-401"},
		{number(true, "", 0), ""}, {number(false, "10", 0), ""}, {number(false, "1", 400), ""}, {number(false, "x", 0), ""}, {number(false, "1", math.MinInt), ""},
	} {
		if s := dec.Print(x.d); s != x.s {
			t.Errorf("%v: %q", x.d, s)
		}
	}
}

func TestPrintIsOfTheDocumentsForm(t *testing.T) {
	// Of numbers of up to 15 digits the form is the one in which ECMAScript has them, which strconv has but for where an exponent begins.
	source := rand.New(rand.NewSource(2))
	for i := 0; i < 20000; i++ {
		f := math.Ldexp(float64(source.Intn(100000)+1), source.Intn(160)-80)
		text := strconv.FormatFloat(f, 'e', -1, 64)
		mantissa, exponent, _ := strings.Cut(text, "e")
		power, _ := strconv.Atoi(exponent)
		want := mantissa + "e" + exponent[:1] + strings.TrimLeft(exponent[1:], "0")
		if power >= -6 && power <= 20 {
			want = strconv.FormatFloat(f, 'f', -1, 64)
		}
		d, e := dec.Parse(text)
		if e != api.OK || dec.Print(d) != want {
			t.Fatalf("%s: %s, not %s", text, dec.Print(d), want)
		}
	}
}

// P2.3: Compare.
func TestCompare(t *testing.T) {
	source := rand.New(rand.NewSource(3))
	for i := 0; i < 40000; i++ {
		a, b := some(source), some(source)
		if i%7 == 0 {
			b = a
			b.Neg = !b.Neg && b.Digits != ""
		}
		if got := dec.Compare(a, b); got != rat(a).Cmp(rat(b)) {
			t.Fatalf("%v %v: %d", a, b, got)
		}
	}
	bad := number(false, "10", 0)
	if dec.Compare(bad, number(false, "1", 0)) != 0 || dec.Compare(number(true, "1", 0), bad) != 0 || dec.Compare(bad, number(false, "", 5)) != 0 {
		t.Error("of what may not be")
	}
}

// exact is a fraction in the form of a number, or ErrLimit.
func exact(r *big.Rat) (api.Dec, api.Errno) {
	text := strings.TrimRight(r.FloatString(1000), "0")
	neg := strings.HasPrefix(text, "-")
	whole, part, _ := strings.Cut(strings.TrimPrefix(text, "-"), ".")
	digits := strings.TrimLeft(whole+part, "0")
	exp := -len(part)
	short := strings.TrimRight(digits, "0")
	if short == "" {
		return api.Dec{}, api.OK
	}
	exp += len(digits) - len(short)
	if high := len(short) + exp; len(short) > 40 || high > 400 || high < -400 {
		return api.Dec{}, api.ErrLimit
	}
	return number(neg, short, exp), api.OK
}

// P2.4 and P2.5: Add and Mul are exact.
func TestAddAndMul(t *testing.T) {
	source := rand.New(rand.NewSource(4))
	for i := 0; i < 6000; i++ {
		a, b := some(source), some(source)
		if i%9 == 0 {
			b = dec.Neg(a)
		}
		want, e := exact(new(big.Rat).Add(rat(a), rat(b)))
		if got, err := dec.Add(a, b); got != want || err != e {
			t.Fatalf("%v + %v: %v %v, not %v %v", a, b, got, err, want, e)
		}
		want, e = exact(new(big.Rat).Mul(rat(a), rat(b)))
		if got, err := dec.Mul(a, b); got != want || err != e {
			t.Fatalf("%v * %v: %v %v, not %v %v", a, b, got, err, want, e)
		}
	}
}

func TestAddAndMulAtTheEdges(t *testing.T) {
	one, bad := number(false, "1", 0), number(false, "10", 0)
	for _, x := range []struct {
		f       func(a, b api.Dec) (api.Dec, api.Errno)
		a, b, d api.Dec
		e       api.Errno
	}{
		{dec.Add, number(false, "1", -1), number(false, "2", -1), number(false, "3", -1), 0},
		{dec.Add, number(false, strings.Repeat("9", 40), 0), one, number(false, "1", 40), 0},
		{dec.Add, number(false, "1", 40), one, api.Dec{}, api.ErrLimit},
		{dec.Add, number(false, "1", 40), number(true, "1", 0), number(false, strings.Repeat("9", 40), 0), 0},
		{dec.Add, number(false, "9", 399), number(false, "1", 399), api.Dec{}, api.ErrLimit},
		{dec.Add, number(false, "11", -402), number(true, "1", -401), api.Dec{}, api.ErrLimit},
		{dec.Mul, number(false, "1", 200), number(false, "1", 199), number(false, "1", 399), 0},
		{dec.Mul, number(false, "1", 200), number(false, "1", 200), api.Dec{}, api.ErrLimit},
		{dec.Mul, number(false, "1", -201), number(true, "1", -200), number(true, "1", -401), 0},
		{dec.Mul, number(false, "1", -201), number(true, "1", -201), api.Dec{}, api.ErrLimit},
		{dec.Mul, number(true, "5", 0), number(true, "2", 0), number(false, "1", 1), 0},
		{dec.Mul, number(true, "5", 399), api.Dec{}, api.Dec{}, 0},
		{dec.Add, bad, one, api.Dec{}, api.ErrArg}, {dec.Add, one, bad, api.Dec{}, api.ErrArg}, {dec.Mul, bad, one, api.Dec{}, api.ErrArg}, {dec.Mul, one, bad, api.Dec{}, api.ErrArg},
		{dec.Mul, api.Dec{}, number(true, "", 0), api.Dec{}, api.ErrArg}, {dec.Add, number(false, "1", math.MaxInt), number(false, "1", math.MinInt), api.Dec{}, api.ErrArg},
	} {
		if d, e := x.f(x.a, x.b); d != x.d || e != x.e {
			t.Errorf("%v %v: %v %v", x.a, x.b, d, e)
		}
	}
}

func TestNegIntOf(t *testing.T) {
	for _, x := range []struct{ d, neg api.Dec }{{api.Dec{}, api.Dec{}}, {number(false, "1", 2), number(true, "1", 2)}, {number(true, "1", 2), number(false, "1", 2)}, {number(true, "", 0), number(true, "", 0)}, {number(false, "10", 0), number(false, "10", 0)}} {
		if d := dec.Neg(x.d); d != x.neg {
			t.Errorf("Neg %v: %v", x.d, d)
		}
	}
	for _, x := range []struct {
		d  api.Dec
		n  int
		ok bool
	}{
		{api.Dec{}, 0, true}, {number(false, "1", 0), 1, true}, {number(true, "12", 3), -12000, true}, {number(false, "15", -1), 0, false}, {number(false, "999999999999999", 0), 999999999999999, true}, {number(true, "1", 14), -100000000000000, true}, {number(false, "1", 15), 0, false}, {number(false, "1", 399), 0, false},
		{number(false, "10", 0), 0, false}, {number(true, "", 0), 0, false}, {number(false, "1", -1), 0, false}, {number(false, "1", math.MinInt), 0, false},
	} {
		if n, ok := dec.Int(x.d); n != x.n || ok != x.ok {
			t.Errorf("Int %v: %d %v", x.d, n, ok)
		}
	}
	for n, want := range map[int]api.Dec{0: {}, 1: number(false, "1", 0), -10: number(true, "1", 1), math.MaxInt: number(false, "9223372036854775807", 0), math.MinInt: number(true, "9223372036854775808", 0), 1000: number(false, "1", 3)} {
		if d := dec.Of(n); d != want {
			t.Errorf("Of %d: %v", n, d)
		}
	}
	for n := -3000; n < 3000; n++ {
		if got, ok := dec.Int(dec.Of(n * 37)); got != n*37 || !ok {
			t.Fatalf("%d: %d %v", n*37, got, ok)
		}
	}
}

// P2.5: what is printed is parsed to itself.
func TestPrintIsParsed(t *testing.T) {
	source := rand.New(rand.NewSource(5))
	for i := 0; i < 40000; i++ {
		d := some(source)
		if got, e := dec.Parse(dec.Print(d)); got != d || e != api.OK {
			t.Fatalf("%v: %q %v %v", d, dec.Print(d), got, e)
		}
	}
}
