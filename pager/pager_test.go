package pager_test

import (
	"bytes"
	"math"
	"math/rand"
	"testing"

	"orangery/api"
	"orangery/disk"
	"orangery/journal"
	"orangery/pager"
)

func newDisk(t *testing.T, n int) *disk.Disk {
	t.Helper()
	d, e := disk.New(n)
	if e != api.OK {
		t.Fatal(e)
	}
	return d
}

func open(t *testing.T, d *disk.Disk, pages, log int) *pager.Pager {
	t.Helper()
	p, e := pager.Open(d, pages, log)
	if e != api.OK || p == nil {
		t.Fatal(e)
	}
	return p
}

func must(t *testing.T, e api.Errno) {
	t.Helper()
	if e != api.OK {
		t.Fatal(e)
	}
}

// page is a text, and zeros behind it.
func page(s string) []byte { return append([]byte(s), make([]byte, api.PageSize-len(s))...) }

func holds(t *testing.T, p *pager.Pager, at int, s string) {
	t.Helper()
	if b, e := p.Read(at); e != api.OK || !bytes.Equal(b, page(s)) {
		t.Errorf("%d: %.10q %v, not %q", at, b, e, s)
	}
}

// P8.1: Open.
func TestOpen(t *testing.T) {
	d := newDisk(t, 100)
	for _, x := range []struct {
		pages, log int
		e          api.Errno
	}{{1, 1, 0}, {12, 4, 0}, {1, 92, 0}, {0, 1, 1}, {-1, 1, 1}, {1, 0, 1}, {1, -1, 1}, {12, 5, 1}, {13, 1, 1}, {4097, 1, 1}, {math.MaxInt, 1, 1}, {1, math.MaxInt, 1}, {math.MaxInt, math.MaxInt, 1}, {math.MinInt, math.MinInt, 1}, {1, math.MinInt, 1}} {
		p, e := pager.Open(d, x.pages, x.log)
		if e != x.e || (p != nil) != (e == api.OK) {
			t.Errorf("%v: %v", x, e)
		}
		if e == api.OK && p.Pages() != x.pages {
			t.Error(p.Pages())
		}
	}
	big := newDisk(t, 65536)
	if _, e := pager.Open(big, 4096, 65536-8*4096); e != api.OK {
		t.Error(e)
	}
	if _, e := pager.Open(big, 4097, 1); e != api.ErrArg {
		t.Error(e)
	}
	for _, dead := range []*disk.Disk{nil, {}} {
		if p, e := pager.Open(dead, 0, 0); e != api.ErrCrash || p != nil {
			t.Error(e)
		}
	}
}

func TestOpenOfRecords(t *testing.T) {
	one := append([]byte{0, 1}, page("one")...)
	for i, x := range []struct {
		records [][]byte
		e       api.Errno
		pages   [2]string
	}{
		{[][]byte{{}}, 0, [2]string{"home", ""}}, {[][]byte{one}, 0, [2]string{"home", "one"}}, {[][]byte{one, {}, append([]byte{0, 0}, page("zero")...)}, 0, [2]string{"zero", "one"}},
		{[][]byte{append(append(append([]byte{}, one...), one...), append([]byte{0, 1}, page("again")...)...)}, 0, [2]string{"home", "again"}}, {[][]byte{one, append([]byte{0, 1}, page("two")...)}, 0, [2]string{"home", "two"}},
		{[][]byte{one[:513]}, 11, [2]string{}}, {[][]byte{append(one[:514:514], 0)}, 11, [2]string{}}, {[][]byte{{0}}, 11, [2]string{}}, {[][]byte{append([]byte{0, 2}, page("")...)}, 11, [2]string{}}, {[][]byte{append([]byte{1, 0}, page("")...)}, 11, [2]string{}}, {[][]byte{one, {0, 0}}, 11, [2]string{}},
	} {
		d := newDisk(t, 100)
		must(t, d.Write(70, []byte("home")))
		l, _, _ := journal.Open(d, 0, 70)
		for _, b := range x.records {
			must(t, l.Append(b))
		}
		p, e := pager.Open(d, 2, 70)
		if e != x.e || (p != nil) != (e == api.OK) {
			t.Errorf("%d: %v", i, e)
		}
		if e == api.OK {
			holds(t, p, 0, x.pages[0])
			holds(t, p, 1, x.pages[1])
		}
	}
}

// P8.1 and P8.4: a page's number has two bytes, the high one first; a record's pages are by rising numbers, and laid once.
func TestPagesOfGreatNumbers(t *testing.T) {
	d := newDisk(t, 65536)
	const log = 65536 - 8*4096
	p := open(t, d, 4096, log)
	names := map[int]string{4095: "last", 0: "zero", 256: "high", 255: "low", 1: "one", 3000: "far"}
	for at, s := range names {
		must(t, p.Write(at, []byte(s)))
	}
	for range 2 { // the second time there are pages that are not at home
		before := d.Writes()
		must(t, p.Commit())
		if n := d.Writes() - before; n != journal.Need(514*len(names))+1 {
			t.Error(n)
		}
		for at, s := range names {
			must(t, p.Write(at, []byte(s)))
		}
	}
	var want []byte
	for _, at := range []int{0, 1, 255, 256, 3000, 4095} {
		want = append(append(want, byte(at/256), byte(at%256)), page(names[at])...)
	}
	_, records, _ := journal.Open(d, 0, log)
	if len(records) != 2 || !bytes.Equal(records[0], want) || !bytes.Equal(records[1], want) {
		t.Error(len(records))
	}
	p = open(t, d, 4096, log)
	for range 2 {
		for at, s := range names {
			holds(t, p, at, s)
		}
		holds(t, p, 257, "")
		must(t, p.Checkpoint())
	}
}

func TestOpenOfAnotherError(t *testing.T) {
	d := newDisk(t, 20)
	must(t, d.Write(0, []byte{165, 90, 255, 255, 255, 255, 0, 0, 0, 1, 0, 0, 0, 1, 0, 0}))
	if p, e := pager.Open(d, 2, 4); e != api.ErrFull || p != nil {
		t.Error(e)
	}
}

// P8.2: Read.
func TestRead(t *testing.T) {
	d := newDisk(t, 40)
	must(t, d.Write(20+8+7, append(make([]byte, 63), 'h')))
	p := open(t, d, 2, 20)
	holds(t, p, 0, "")
	if b, e := p.Read(1); e != api.OK || len(b) != 512 || b[511] != 'h' {
		t.Error("home", e)
	}
	for _, at := range []int{-1, 2, math.MaxInt, math.MinInt} {
		if b, e := p.Read(at); e != api.ErrArg || b != nil {
			t.Error(at, e)
		}
	}
	must(t, p.Write(1, []byte("a")))
	for range 3 { // dirty, committed, at home
		b, _ := p.Read(1)
		b[0] = 'x'
		holds(t, p, 1, "a")
		must(t, p.Commit())
	}
	must(t, p.Checkpoint())
	holds(t, p, 1, "a")
	must(t, p.Write(1, []byte("b")))
	holds(t, p, 1, "b")
	d.Limit(0)
	d.Sync()
	holds(t, p, 1, "b")
	if _, e := p.Read(0); e != api.ErrCrash {
		t.Error(e)
	}
	d.Reopen(nil)
	for _, at := range []int{0, 1, 9} {
		if b, e := p.Read(at); e != api.ErrCrash || b != nil {
			t.Error("broken", at, e)
		}
	}
}

// P8.3: Write, Dirty, Rollback.
func TestWrite(t *testing.T) {
	d := newDisk(t, 60)
	p := open(t, d, 3, 30)
	b := page("full")
	b[511] = 'z'
	must(t, p.Write(2, b))
	b[0] = 'x'
	if got, _ := p.Read(2); got[0] != 'f' || got[511] != 'z' {
		t.Error("kept")
	}
	must(t, p.Write(2, nil))
	holds(t, p, 2, "")
	must(t, p.Write(0, []byte("a")))
	for _, at := range []int{-1, 3, math.MinInt, math.MaxInt} {
		if e := p.Write(at, nil); e != api.ErrArg {
			t.Error(at, e)
		}
	}
	if e := p.Write(1, make([]byte, 513)); e != api.ErrArg {
		t.Error(e)
	}
	if p.Dirty() != 2 || d.Writes() != 0 {
		t.Error(p.Dirty(), d.Writes())
	}
	p.Rollback()
	if p.Dirty() != 0 {
		t.Error(p.Dirty())
	}
	holds(t, p, 0, "")
	must(t, p.Write(0, []byte("b")))
	must(t, p.Commit())
	must(t, p.Write(0, []byte("c")))
	p.Rollback()
	holds(t, p, 0, "b")
}

// P8.4: Commit.
func TestCommit(t *testing.T) {
	d := newDisk(t, 80)
	p := open(t, d, 3, 50)
	must(t, p.Commit())
	if d.Writes() != 0 {
		t.Error("nothing was dirty")
	}
	must(t, p.Write(2, []byte("two")))
	must(t, p.Write(0, []byte("zero")))
	must(t, p.Commit())
	if p.Dirty() != 0 || d.Pending() != 0 {
		t.Error(p.Dirty(), d.Pending())
	}
	_, records, _ := journal.Open(d, 0, 50)
	want := append(append(append([]byte{0, 0}, page("zero")...), 0, 2), page("two")...)
	if len(records) != 1 || !bytes.Equal(records[0], want) {
		t.Errorf("%q", records)
	}
	d.Reopen(nil)
	p = open(t, d, 3, 50)
	holds(t, p, 0, "zero")
	holds(t, p, 2, "two")
	if b, _ := d.Read(50); !bytes.Equal(b, make([]byte, 64)) {
		t.Error("it is not at home yet")
	}
}

func TestCommitMakesRoom(t *testing.T) {
	d := newDisk(t, 60)
	p := open(t, d, 3, 24) // a page is 11 pieces
	for i, s := range []string{"a", "b", "c", "d", "e"} {
		must(t, p.Write(i%3, []byte(s)))
		must(t, p.Commit())
		d.Reopen(nil)
		holds(t, open(t, d, 3, 24), i%3, s)
	}
	if b, _ := d.Read(24); b[0] != 'd' {
		t.Errorf("%q", b)
	}
	before := d.Writes()
	for at := range 3 {
		must(t, p.Write(at, []byte("much")))
	}
	if e := p.Commit(); e != api.ErrFull || p.Dirty() != 3 {
		t.Error(e, p.Dirty())
	}
	if d.Writes() == before {
		t.Error("a checkpoint was due")
	}
	holds(t, p, 1, "much")
	before = d.Writes()
	if e := p.Commit(); e != api.ErrFull || d.Writes() != before {
		t.Error("another one was not", e)
	}
	p.Rollback()
	holds(t, p, 1, "e")
	must(t, p.Write(0, []byte("f")))
	must(t, p.Commit())
	d.Reopen(nil)
	p = open(t, d, 3, 24)
	holds(t, p, 0, "f")
	holds(t, p, 1, "e")
	holds(t, p, 2, "c")
}

func TestCommitBreaks(t *testing.T) {
	d := newDisk(t, 60)
	p := open(t, d, 3, 24)
	must(t, p.Write(0, []byte("a")))
	d.Limit(3)
	if e := p.Commit(); e != api.ErrCrash {
		t.Error(e)
	}
	d.Reopen(nil)
	if _, e := p.Read(0); e != api.ErrCrash {
		t.Error(e)
	}
	if e := p.Write(0, nil); e != api.ErrCrash {
		t.Error(e)
	}
	if e := p.Write(-1, make([]byte, 999)); e != api.ErrCrash {
		t.Error(e)
	}
	if e := p.Commit(); e != api.ErrCrash {
		t.Error(e)
	}
	if e := p.Checkpoint(); e != api.ErrCrash {
		t.Error(e)
	}
	p.Rollback()
	if e := p.Commit(); e != api.ErrCrash {
		t.Error(e)
	}
}

// P8.5: Checkpoint.
func TestCheckpoint(t *testing.T) {
	d := newDisk(t, 80)
	p := open(t, d, 3, 50)
	must(t, p.Write(1, []byte("dirty")))
	must(t, p.Checkpoint())
	if d.Writes() != 0 {
		t.Error("nothing was committed")
	}
	must(t, p.Commit())
	must(t, p.Write(2, []byte("new")))
	before := d.Writes()
	must(t, p.Checkpoint())
	if n := d.Writes() - before; n != 8+1+2 {
		t.Errorf("%d writes", n)
	}
	if b, _ := d.Read(50 + 8); !bytes.HasPrefix(b, []byte("dirty")) {
		t.Errorf("%q", b)
	}
	_, records, _ := journal.Open(d, 0, 50)
	if len(records) != 1 || len(records[0]) != 0 {
		t.Errorf("%q", records)
	}
	if p.Dirty() != 1 {
		t.Error(p.Dirty())
	}
	holds(t, p, 2, "new")
	before = d.Writes()
	must(t, p.Checkpoint())
	if d.Writes() != before {
		t.Error("once is enough")
	}
	must(t, p.Commit())
	d.Reopen(nil)
	p = open(t, d, 3, 50)
	holds(t, p, 1, "dirty")
	holds(t, p, 2, "new")
	before = d.Writes()
	must(t, p.Checkpoint()) // of what Open told
	if d.Writes()-before != 11 {
		t.Error(d.Writes() - before)
	}
	for limit := range 11 {
		must(t, p.Write(0, []byte{byte(limit)}))
		must(t, p.Commit())
		d.Limit(limit)
		if e := p.Checkpoint(); e != api.ErrCrash {
			t.Error(limit, e)
		}
		d.Reopen(nil)
		if e := p.Checkpoint(); e != api.ErrCrash {
			t.Error("broken", e)
		}
		p = open(t, d, 3, 50)
		holds(t, p, 0, string([]byte{byte(limit)}))
		holds(t, p, 1, "dirty")
	}
}

// P8.6: what Open did not make.
func TestNone(t *testing.T) {
	for _, p := range []*pager.Pager{nil, {}} {
		p.Rollback()
		if p.Pages() != 0 || p.Dirty() != 0 {
			t.Error("numbers")
		}
		for _, at := range []int{0, -1} {
			if b, e := p.Read(at); e != api.ErrCrash || b != nil {
				t.Error(e)
			}
			if e := p.Write(at, make([]byte, 999)); e != api.ErrCrash {
				t.Error(e)
			}
		}
		if p.Commit() != api.ErrCrash || p.Checkpoint() != api.ErrCrash {
			t.Error("Commit, Checkpoint")
		}
	}
}

// P8.7, W1: behind any crash each page is as the last Commit that was OK left it, or all as the one left them that was being done.
func TestCrashes(t *testing.T) {
	source := rand.New(rand.NewSource(1))
	for range 1200 {
		d := newDisk(t, 40+8*4)
		var now [4]string
		for range 4 {
			p := open(t, d, 4, 40)
			for at, s := range now {
				holds(t, p, at, s)
			}
			d.Limit(source.Intn(90))
			next := now
			var e api.Errno
			for e == api.OK {
				now = next
				switch source.Intn(5) {
				case 0:
					e = p.Checkpoint()
				case 1:
					p.Write(source.Intn(4), []byte("gone"))
					p.Rollback()
				default:
					for range source.Intn(4) {
						at := source.Intn(4)
						next[at] = string(rune('a'+source.Intn(26))) + "x"
						p.Write(at, []byte(next[at]))
					}
					e = p.Commit()
					if e == api.ErrFull {
						t.Fatal(e)
					}
				}
			}
			keep := make([]bool, d.Pending())
			for i := range keep {
				keep[i] = source.Intn(3) > 0
			}
			d.Reopen(keep)
			p = open(t, d, 4, 40)
			if b, _ := p.Read(0); now != next && allAre(p, next) && b != nil {
				now = next
			}
			if !allAre(p, now) {
				t.Fatalf("neither %q nor %q", now, next)
			}
		}
	}
}

func allAre(p *pager.Pager, pages [4]string) bool {
	for at, s := range pages {
		if b, e := p.Read(at); e != api.OK || !bytes.Equal(b, page(s)) {
			return false
		}
	}
	return true
}
