package journal_test

import (
	"bytes"
	"math"
	"math/rand"
	"testing"

	"orangery/api"
	"orangery/disk"
	"orangery/journal"
)

func newDisk(t *testing.T, n int) *disk.Disk {
	t.Helper()
	d, e := disk.New(n)
	if e != api.OK {
		t.Fatal(e)
	}
	return d
}

func open(t *testing.T, d *disk.Disk, from, n int) (*journal.Log, [][]byte) {
	t.Helper()
	l, records, e := journal.Open(d, from, n)
	if e != api.OK || l == nil {
		t.Fatal(e)
	}
	return l, records
}

func must(t *testing.T, e api.Errno) {
	t.Helper()
	if e != api.OK {
		t.Fatal(e)
	}
}

// piece is one, laid down by hand.
func piece(session, number uint32, place, count, size int, s string) []byte {
	b := []byte{165, 90, byte(session >> 24), byte(session >> 16), byte(session >> 8), byte(session), byte(number >> 24), byte(number >> 16), byte(number >> 8), byte(number), byte(place >> 8), byte(place), byte(count >> 8), byte(count), byte(size), 0}
	return append(b, s...)
}

func lay(t *testing.T, d *disk.Disk, from int, pieces ...[]byte) {
	t.Helper()
	for i, b := range pieces {
		must(t, d.Write(from+i, b))
	}
	must(t, d.Sync())
}

func same(a [][]byte, b ...string) bool {
	if len(a) != len(b) {
		return false
	}
	for i := range a {
		if string(a[i]) != b[i] {
			return false
		}
	}
	return true
}

// long is a text of a record of so many bytes.
func long(n int) string {
	b := make([]byte, n)
	for i := range b {
		b[i] = byte('a' + i%26)
	}
	return string(b)
}

// P7.1: what Open refuses.
func TestOpenErrors(t *testing.T) {
	d := newDisk(t, 8)
	for _, x := range []struct {
		from, n int
		e       api.Errno
	}{{0, 8, 0}, {7, 1, 0}, {0, 0, 1}, {0, -1, 1}, {-1, 2, 1}, {0, 9, 1}, {8, 1, 1}, {1, 8, 1}, {math.MaxInt, 1, 1}, {1, math.MaxInt, 1}, {math.MaxInt, math.MaxInt, 1}, {math.MinInt, math.MinInt, 1}, {math.MinInt, 1, 1}} {
		l, records, e := journal.Open(d, x.from, x.n)
		if e != x.e || (l != nil) != (e == api.OK) || len(records) != 0 {
			t.Errorf("%d %d: %v", x.from, x.n, e)
		}
	}
	for _, dead := range []*disk.Disk{nil, {}} {
		if l, records, e := journal.Open(dead, -1, 0); e != api.ErrCrash || l != nil || records != nil {
			t.Error(e)
		}
	}
	lay(t, d, 0, piece(math.MaxUint32, 1, 0, 1, 1, "a"))
	if l, records, e := journal.Open(d, 0, 8); e != api.ErrFull || l != nil || records != nil {
		t.Error(e)
	}
	if _, _, e := journal.Open(d, 1, 7); e != api.OK {
		t.Error(e)
	}
	d.Limit(0)
	d.Sync()
	if _, _, e := journal.Open(d, 0, 9); e != api.ErrCrash {
		t.Error(e)
	}
}

// P7.1: which records there are.
func TestOpenOfPieces(t *testing.T) {
	full := long(48)
	for i, x := range []struct {
		l    [][]byte
		want []string
		room int
	}{
		{nil, nil, 6},
		{[][]byte{piece(1, 1, 0, 1, 3, "abc")}, []string{"abc"}, 5},
		{[][]byte{piece(1, 1, 0, 1, 2, "abc")}, []string{"ab"}, 5},
		{[][]byte{piece(1, 1, 0, 1, 0, "abc")}, []string{""}, 5},
		{[][]byte{piece(1, 7, 0, 1, 1, "a"), piece(1, 8, 0, 1, 1, "b"), piece(1, 10, 0, 1, 1, "c")}, []string{"a", "b"}, 4},
		{[][]byte{piece(2, 7, 0, 1, 1, "a"), piece(3, 8, 0, 1, 1, "b"), piece(2, 9, 0, 1, 1, "c")}, []string{"a", "b"}, 4},
		{[][]byte{piece(1, math.MaxUint32, 0, 1, 1, "a"), piece(1, 0, 0, 1, 1, "b"), piece(1, 1, 0, 1, 1, "c")}, []string{"a", "b", "c"}, 3},
		{[][]byte{piece(1, 1, 0, 2, 48, full), piece(1, 1, 1, 2, 1, "z")}, []string{full + "z"}, 4},
		{[][]byte{piece(1, 1, 0, 2, 48, full), piece(1, 1, 1, 2, 0, "")}, []string{full}, 4},
		{[][]byte{piece(1, 1, 0, 2, 47, full), piece(1, 1, 1, 2, 1, "z")}, nil, 6},
		{[][]byte{piece(1, 1, 0, 2, 48, full), piece(2, 1, 1, 2, 1, "z")}, nil, 6},
		{[][]byte{piece(1, 1, 0, 2, 48, full), piece(1, 2, 1, 2, 1, "z")}, nil, 6},
		{[][]byte{piece(1, 1, 0, 2, 48, full), piece(1, 1, 1, 3, 1, "z")}, nil, 6},
		{[][]byte{piece(1, 1, 0, 2, 48, full), piece(1, 1, 0, 2, 1, "z")}, nil, 6},
		{[][]byte{piece(1, 1, 0, 2, 48, full)}, nil, 6},
		{[][]byte{piece(1, 1, 1, 2, 48, full)}, nil, 6},
		{[][]byte{piece(1, 1, 0, 0, 1, "a")}, nil, 6},
		{[][]byte{piece(1, 1, 0, 1, 49, "a")}, nil, 6},
		{[][]byte{nil, piece(1, 1, 0, 1, 1, "a")}, nil, 6},
		{[][]byte{piece(1, 1, 0, 7, 48, full), piece(1, 1, 1, 7, 48, full), piece(1, 1, 2, 7, 48, full), piece(1, 1, 3, 7, 48, full), piece(1, 1, 4, 7, 48, full), piece(1, 1, 5, 7, 48, full), piece(1, 1, 6, 7, 48, full)}, nil, 6},
		{[][]byte{piece(1, 1, 0, 1, 1, "a"), piece(1, 2, 0, 1, 1, "b"), piece(1, 3, 0, 1, 1, "c"), piece(1, 4, 0, 1, 1, "d"), piece(1, 5, 0, 1, 1, "e"), piece(1, 6, 0, 1, 1, "f"), piece(1, 7, 0, 1, 1, "g")}, []string{"a", "b", "c", "d", "e", "f"}, 0},
		{[][]byte{append([]byte{164}, piece(1, 1, 0, 1, 1, "a")[1:]...)}, nil, 6},
		{[][]byte{append([]byte{165, 91}, piece(1, 1, 0, 1, 1, "a")[2:]...)}, nil, 6},
	} {
		d := newDisk(t, 9)
		lay(t, d, 1, x.l...)
		l, records := open(t, d, 1, 6)
		if !same(records, x.want...) || l.Room() != x.room {
			t.Errorf("%d: %q %d", i, records, l.Room())
		}
	}
}

// P7.1: the number and the session of what is laid next.
func TestNumbersBehindOpen(t *testing.T) {
	for i, x := range []struct {
		l               [][]byte
		place           int
		session, number uint32
	}{
		{nil, 0, 1, 1},
		{[][]byte{piece(5, 9, 0, 1, 1, "a"), piece(4, 20, 0, 1, 1, "b")}, 1, 6, 10},
		{[][]byte{nil, piece(4, 20, 0, 1, 1, "b"), piece(9, 3, 1, 1, 1, "b")}, 0, 10, 21},
		{[][]byte{nil, piece(4, 20, 0, 1, 49, "b")}, 0, 1, 1},
		{[][]byte{piece(math.MaxUint32-1, math.MaxUint32, 0, 1, 1, "a")}, 1, math.MaxUint32, 0},
		{[][]byte{nil, piece(1, math.MaxUint32, 0, 1, 1, "a")}, 0, 2, 0},
		{[][]byte{piece(0, 0, 1, 1, 1, "a")}, 0, 1, 1},
	} {
		d := newDisk(t, 6)
		lay(t, d, 1, x.l...)
		l, _ := open(t, d, 1, 5)
		must(t, l.Append([]byte("new")))
		want := append(piece(x.session, x.number, 0, 1, 3, "new"), make([]byte, 45)...)
		if b, _ := d.Read(1 + x.place); !bytes.Equal(b, want) {
			t.Errorf("%d: %v", i, b)
		}
	}
}

// P7.2: Need and Room.
func TestNeed(t *testing.T) {
	for size, want := range map[int]int{math.MinInt: 1, -1: 1, 0: 1, 1: 1, 48: 1, 49: 2, 96: 2, 97: 3, math.MaxInt: math.MaxInt/48 + 1} {
		if n := journal.Need(size); n != want {
			t.Errorf("%d: %d", size, n)
		}
	}
}

// P7.3: Append.
func TestAppend(t *testing.T) {
	d := newDisk(t, 12)
	l, _ := open(t, d, 2, 8)
	texts := []string{"a", "", long(48), long(49), long(97)}
	room := 8
	for _, s := range texts {
		must(t, l.Append([]byte(s)))
		if room -= journal.Need(len(s)); l.Room() != room || d.Pending() != 0 {
			t.Error(l.Room(), d.Pending())
		}
	}
	if e := l.Append(nil); e != api.ErrFull || l.Room() != 0 {
		t.Error(e)
	}
	for _, at := range []int{0, 1, 10, 11} {
		if b, _ := d.Read(at); !bytes.Equal(b, make([]byte, 64)) {
			t.Errorf("%d is not the part's", at)
		}
	}
	d.Reopen(nil)
	if _, records := open(t, d, 2, 8); !same(records, texts...) {
		t.Errorf("%q", records)
	}
	want := append(piece(1, 4, 1, 2, 1, long(49)[48:]), make([]byte, 47)...)
	if b, _ := d.Read(2 + 4); !bytes.Equal(b, want) {
		t.Errorf("%v", b)
	}
}

func TestAppendErrors(t *testing.T) {
	d := newDisk(t, 4)
	l, _ := open(t, d, 0, 4)
	if e := l.Append([]byte(long(4*48 + 1))); e != api.ErrFull || d.Writes() != 0 {
		t.Error(e)
	}
	if e := l.Append(make([]byte, 65535*48+1)); e != api.ErrLimit {
		t.Error(e)
	}
	if e := l.Append(make([]byte, 65535*48)); e != api.ErrFull {
		t.Error(e)
	}
	must(t, l.Append([]byte("a")))
	d.Limit(1)
	if e := l.Append([]byte(long(49))); e != api.ErrCrash || l.Room() != 3 {
		t.Error(e)
	}
	d.Reopen(nil)
	for _, b := range [][]byte{nil, make([]byte, 65535*48+1), make([]byte, 500)} {
		if e := l.Append(b); e != api.ErrCrash {
			t.Error("broken", e)
		}
	}
	big := newDisk(t, 65536)
	l, _ = open(t, big, 0, 65536)
	must(t, l.Append(make([]byte, 65535*48)))
	if l.Room() != 1 {
		t.Error(l.Room())
	}
}

// P7.4: Reset.
func TestReset(t *testing.T) {
	d := newDisk(t, 4)
	l, _ := open(t, d, 0, 4)
	for _, s := range []string{"a", "b", "c"} {
		must(t, l.Append([]byte(s)))
	}
	before := d.Writes()
	l.Reset()
	if d.Writes() != before || l.Room() != 4 {
		t.Error("Reset")
	}
	if _, records := open(t, d, 0, 4); !same(records, "a", "b", "c") {
		t.Errorf("%q", records)
	}
	must(t, l.Append([]byte("d")))
	if _, records := open(t, d, 0, 4); !same(records, "d") {
		t.Errorf("%q", records)
	}
	must(t, l.Append([]byte("e")))
	if _, records := open(t, d, 0, 4); !same(records, "d", "e") {
		t.Errorf("%q", records)
	}
}

// P7.5: what Open did not make.
func TestNone(t *testing.T) {
	for _, l := range []*journal.Log{nil, {}} {
		l.Reset()
		for _, b := range [][]byte{nil, []byte("a"), make([]byte, 65535*48+1)} {
			if e := l.Append(b); e != api.ErrCrash {
				t.Error(e)
			}
		}
		if l.Room() != 0 {
			t.Error(l.Room())
		}
	}
}

// P7.6, W1: behind any crash all records are told that were laid, and at most the one that was being laid.
func TestCrashes(t *testing.T) {
	source := rand.New(rand.NewSource(1))
	for range 1500 {
		d := newDisk(t, 40)
		var laid []string
		for range 3 {
			l, records := open(t, d, 3, 30)
			if !same(records, laid...) {
				t.Fatalf("%q, not %q", records, laid)
			}
			d.Limit(source.Intn(12))
			being := ""
			var e api.Errno
			for e == api.OK {
				being = long(source.Intn(200)) + string(rune('a'+source.Intn(26)))
				if e = l.Append([]byte(being)); e == api.OK {
					laid = append(laid, being)
				}
			}
			keep := make([]bool, d.Pending())
			for i := range keep {
				keep[i] = source.Intn(3) > 0
			}
			d.Reopen(keep)
			_, records = open(t, d, 3, 30)
			if e == api.ErrCrash && len(records) == len(laid)+1 {
				laid = append(laid, being)
			}
			if !same(records, laid...) {
				t.Fatalf("%q, not %q and %q", records, laid, being)
			}
		}
	}
}

// W3: disks of any kind are answered.
func TestAnyDisk(t *testing.T) {
	source := rand.New(rand.NewSource(2))
	for range 3000 {
		d := newDisk(t, 6)
		for at := range 6 {
			b := piece(uint32(source.Intn(3)), uint32(source.Intn(3)), source.Intn(3), source.Intn(4), 47+source.Intn(3), long(48))
			if source.Intn(5) == 0 {
				b[source.Intn(len(b))] = byte(source.Intn(256))
			}
			must(t, d.Write(at, b))
		}
		if l, _, e := journal.Open(d, 0, 6); e == api.OK {
			l.Append([]byte("x"))
		} else if e != api.ErrFull {
			t.Fatal(e)
		}
	}
}
