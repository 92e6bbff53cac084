package joins_test

import (
	"math"
	"math/rand"
	"slices"
	"testing"

	"orangery/joins"
	"orangery/streams"
)

func item(doc, start, end, level int) streams.Item {
	return streams.Item{Doc: doc, Start: start, End: end, Level: level}
}

// sound is Sound by pairs.
func sound(l []streams.Item) bool {
	for i, a := range l {
		if a.Start >= a.End {
			return false
		}
		for _, b := range l[:i] {
			if b.Doc > a.Doc || b.Doc == a.Doc && (b.Start >= a.Start || a.Start <= b.End && a.End >= b.End) {
				return false
			}
		}
	}
	return true
}

func stands(a, d streams.Item, parent bool) bool {
	return a.Doc == d.Doc && d.Start > a.Start && d.End < a.End && (!parent || d.Level == a.Level+1)
}

// pairs are Pairs, each held against each.
func pairs(a, d []streams.Item, parent bool) []joins.Pair {
	var l []joins.Pair
	if sound(a) && sound(d) {
		for k, y := range d {
			for i, x := range a {
				if stands(x, y, parent) {
					l = append(l, joins.Pair{A: i, D: k})
				}
			}
		}
	}
	return l
}

// P20.1: Sound.
func TestSound(t *testing.T) {
	for i, x := range []struct {
		l    []streams.Item
		want bool
	}{
		{nil, true}, {[]streams.Item{item(1, 1, 2, 0)}, true}, {[]streams.Item{item(1, 2, 2, 0)}, false}, {[]streams.Item{item(1, 3, 2, 0)}, false}, {[]streams.Item{item(1, math.MinInt, math.MaxInt, math.MinInt)}, true},
		{[]streams.Item{item(1, 1, 10, 0), item(1, 2, 9, 0), item(1, 3, 4, 0), item(1, 11, 12, 0)}, true}, {[]streams.Item{item(1, 1, 10, 0), item(1, 2, 10, 0)}, false}, {[]streams.Item{item(1, 1, 10, 0), item(1, 1, 9, 0)}, false}, {[]streams.Item{item(1, 1, 10, 0), item(1, 2, 11, 0)}, false}, {[]streams.Item{item(1, 1, 10, 0), item(1, 10, 11, 0)}, false}, {[]streams.Item{item(1, 1, 10, 0), item(1, 11, 12, 0)}, true}, {[]streams.Item{item(1, 1, 10, 0), item(1, 2, 3, 0), item(1, 4, 11, 0)}, false}, {[]streams.Item{item(1, 2, 3, 0), item(1, 1, 10, 0)}, false}, {[]streams.Item{item(1, 1, 10, 0), item(1, 1, 10, 0)}, false},
		{[]streams.Item{item(1, 1, 10, 0), item(2, 1, 10, 0), item(2, 2, 3, 0)}, true}, {[]streams.Item{item(2, 1, 10, 0), item(1, 1, 10, 0)}, false}, {[]streams.Item{item(1, 1, 10, 0), item(2, 5, 20, 0)}, true}, {[]streams.Item{item(-5, 1, 10, 0), item(math.MaxInt, 1, 10, 0)}, true}, {[]streams.Item{item(1, 1, 10, 0), item(2, 1, 2, 0), item(1, 11, 12, 0)}, false},
	} {
		if joins.Sound(x.l) != x.want {
			t.Errorf("%d", i)
		}
	}
}

// P20.2: Pairs.
func TestPairs(t *testing.T) {
	a := []streams.Item{item(1, 1, 10, 0), item(1, 2, 9, 1)}
	d := []streams.Item{item(1, 3, 4, 2)}
	if l, n := joins.Pairs(a, d, false); !slices.Equal(l, []joins.Pair{{0, 0}, {1, 0}}) || n > 2 {
		t.Error(l, n)
	}
	if l, n := joins.Pairs(a, d, true); !slices.Equal(l, []joins.Pair{{1, 0}}) || n > 2 {
		t.Error(l, n)
	}
	if l, n := joins.Pairs(a, a, false); !slices.Equal(l, []joins.Pair{{0, 1}}) || n > 2 {
		t.Error(l, n)
	}
	bad := []streams.Item{item(1, 5, 4, 0)}
	for _, x := range [][2][]streams.Item{{bad, d}, {a, bad}, {bad, bad}, {nil, d}, {a, nil}, {nil, nil}} {
		if l, n := joins.Pairs(x[0], x[1], false); len(l) != 0 || n != 0 && !(len(x[0]) == 2 && x[1] == nil) {
			t.Error(l, n)
		}
	}
	ends := []streams.Item{item(1, 1, 10, math.MaxInt)}
	if l, _ := joins.Pairs(ends, []streams.Item{item(1, 2, 3, math.MinInt)}, true); len(l) != 1 {
		t.Error("behind the greatest int comes the least one")
	}
}

// P20.3: Chain.
func TestChain(t *testing.T) {
	a := []streams.Item{item(1, 1, 20, 0), item(2, 1, 20, 0)}
	b := []streams.Item{item(1, 2, 9, 1), item(1, 11, 18, 2), item(2, 2, 9, 2)}
	c := []streams.Item{item(1, 3, 4, 2), item(1, 12, 13, 3), item(1, 19, 20, 3), item(2, 3, 4, 3)}
	for i, x := range []struct {
		l      [][]streams.Item
		parent []bool
		want   []int
	}{
		{nil, nil, nil}, {nil, []bool{true}, nil}, {[][]streams.Item{b}, []bool{true}, []int{0, 1, 2}}, {[][]streams.Item{a, b}, nil, []int{0, 1, 2}}, {[][]streams.Item{a, b}, []bool{true}, []int{0, 1, 2}}, {[][]streams.Item{a, b}, []bool{false, true}, []int{0}}, {[][]streams.Item{a, b, c}, nil, []int{0, 1, 3}}, {[][]streams.Item{a, b, c}, []bool{true, true}, []int{0}}, {[][]streams.Item{a, b, c}, []bool{true, false, true}, []int{0, 1, 3}}, {[][]streams.Item{a, c}, []bool{true, true, true}, nil}, {[][]streams.Item{a, c}, nil, []int{0, 1, 3}}, {[][]streams.Item{a, nil, c}, nil, nil}, {[][]streams.Item{nil}, nil, nil}, {[][]streams.Item{c, b, a}, nil, nil},
		{[][]streams.Item{a, {item(1, 5, 5, 0)}}, nil, nil}, {[][]streams.Item{{item(1, 5, 5, 0)}}, nil, nil}, {[][]streams.Item{a, b, {item(1, 5, 5, 0)}}, nil, nil}, {[][]streams.Item{{item(1, 5, 5, 0)}, b, c}, nil, nil},
	} {
		got, n := joins.Chain(x.l, x.parent)
		most := 0
		for _, l := range x.l {
			most += len(l)
		}
		if !slices.Equal(got, x.want) || n < 0 || n > most {
			t.Errorf("%d: %v %d", i, got, n)
		}
	}
	if _, n := joins.Chain([][]streams.Item{a, b, {item(1, 5, 5, 0)}}, nil); n != 0 {
		t.Error(n)
	}
}

// tree are the items of some documents.
func tree(r *rand.Rand) []streams.Item {
	var l []streams.Item
	for doc := range 2 {
		n := 0
		var grow func(level int)
		grow = func(level int) {
			at := len(l)
			n += 1 + r.Intn(2)
			l = append(l, item(doc, n, 0, level))
			for range r.Intn(3) {
				if level < 5 {
					grow(level + 1)
				}
			}
			n += 1 + r.Intn(2)
			l[at].End = n
		}
		for range 1 + r.Intn(3) {
			grow(r.Intn(2))
		}
	}
	return l
}

// part is some of a list.
func part(r *rand.Rand, l []streams.Item) []streams.Item {
	var out []streams.Item
	for _, it := range l {
		if r.Intn(2) == 0 {
			out = append(out, it)
		}
	}
	return out
}

// P20.4, P20.5 and all of it, held against pairs.
func TestAgainstPairs(t *testing.T) {
	r := rand.New(rand.NewSource(1))
	for range 20000 {
		all := tree(r)
		other := all
		if r.Intn(3) == 0 { // lists that overlap in any way
			other = tree(r)
		}
		a, d, f := part(r, all), part(r, other), part(r, all)
		for range r.Intn(3) / 2 {
			l := [][]streams.Item{a, d, f}[r.Intn(3)]
			if len(l) > 0 {
				x := &l[r.Intn(len(l))]
				x.Start += r.Intn(5) - 2
				x.End += r.Intn(5) - 2
				x.Level += r.Intn(3) - 1
			}
		}
		if joins.Sound(a) != sound(a) || joins.Sound(d) != sound(d) {
			t.Fatal("Sound", a, d)
		}
		for _, parent := range []bool{false, true} {
			want := pairs(a, d, parent)
			got, n := joins.Pairs(a, d, parent)
			if !slices.Equal(got, want) || n > len(a) || n < 0 {
				t.Fatalf("%v %v: %v %d, not %v", a, d, got, n, want)
			}
			var seconds []int
			for _, p := range want {
				seconds = append(seconds, p.D)
			}
			seconds = slices.Compact(seconds)
			if chain, n := joins.Chain([][]streams.Item{a, d}, []bool{true, parent}); !slices.Equal(chain, seconds) || n > len(a)+len(d) {
				t.Fatalf("%v %v: %v", a, d, chain)
			}
			if within := joins.Within(a, d); !parent && !slices.Equal(within, seconds) {
				t.Fatalf("%v %v: %v", a, d, within)
			}
			var left []streams.Item
			for _, k := range seconds {
				left = append(left, d[k])
			}
			var ends []int
			for _, p := range pairs(left, f, !parent) {
				ends = append(ends, p.D)
			}
			if !sound(a) || !sound(d) {
				ends = nil
			}
			if chain, n := joins.Chain([][]streams.Item{a, d, f}, []bool{false, parent, !parent}); !slices.Equal(chain, slices.Compact(ends)) || n > len(a)+len(d)+len(f) {
				t.Fatalf("%v %v %v: %v, not %v", a, d, f, chain, ends)
			}
		}
	}
}

func TestWithin(t *testing.T) {
	a, d := []streams.Item{item(1, 1, 10, 0)}, []streams.Item{item(1, 2, 3, 5), item(1, 11, 12, 0)}
	if l := joins.Within(a, d); !slices.Equal(l, []int{0}) {
		t.Error(l)
	}
	bad := []streams.Item{item(1, 5, 4, 0)}
	if len(joins.Within(bad, d)) != 0 || len(joins.Within(a, bad)) != 0 || len(joins.Within(nil, d)) != 0 || len(joins.Within(a, nil)) != 0 {
		t.Error("nothing")
	}
}
