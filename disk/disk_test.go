package disk_test

import (
	"bytes"
	"math"
	"math/rand"
	"testing"

	"orangery/api"
	"orangery/disk"
)

func made(t *testing.T, n int) *disk.Disk {
	t.Helper()
	d, e := disk.New(n)
	if e != api.OK || d == nil {
		t.Fatalf("New(%d): %v", n, e)
	}
	return d
}

// padded is a text, and zeros behind it.
func padded(s string) []byte { return append([]byte(s), make([]byte, api.Sector-len(s))...) }

func holds(t *testing.T, d *disk.Disk, at int, s string) {
	t.Helper()
	if b, e := d.Read(at); e != api.OK || !bytes.Equal(b, padded(s)) {
		t.Errorf("%d: %.10q %v, not %q", at, b, e, s)
	}
}

// P6.1: New and Size.
func TestNew(t *testing.T) {
	for _, n := range []int{1, 2, 65536} {
		if d := made(t, n); d.Size() != n || d.Dead() || d.Pending() != 0 || d.Writes() != 0 {
			t.Error(n)
		} else {
			holds(t, d, n-1, "")
		}
	}
	for _, n := range []int{0, -1, 65537, math.MaxInt, math.MinInt} {
		if d, e := disk.New(n); e != api.ErrArg || d != nil {
			t.Error(n, e)
		}
	}
}

// P6.2: Read.
func TestRead(t *testing.T) {
	d := made(t, 3)
	d.Write(1, []byte("a"))
	d.Write(1, []byte("b"))
	holds(t, d, 1, "b")
	holds(t, d, 0, "")
	for _, at := range []int{-1, 3, math.MaxInt, math.MinInt, math.MaxInt / 32} {
		if b, e := d.Read(at); e != api.ErrArg || b != nil {
			t.Error(at, e)
		}
	}
	b, _ := d.Read(1)
	b[0] = 'x'
	b = append(b, 'y')
	holds(t, d, 1, "b")
	holds(t, d, 2, "")
	d.Limit(0)
	d.Sync()
	for _, at := range []int{1, -1, 3} {
		if b, e := d.Read(at); e != api.ErrCrash || b != nil {
			t.Error(at, e)
		}
	}
}

// P6.3: Write and Sync.
func TestWrite(t *testing.T) {
	d := made(t, 2)
	b := padded("full")
	b[63] = 9
	if d.Write(1, b) != api.OK || d.Write(0, nil) != api.OK {
		t.Error("Write")
	}
	b[0] = 'x'
	if got, _ := d.Read(1); got[0] != 'f' || got[63] != 9 {
		t.Errorf("%q", got)
	}
	d.Write(1, []byte("s"))
	holds(t, d, 1, "s")
	d.Limit(5)
	for _, at := range []int{-1, 2, math.MinInt, math.MaxInt} {
		if e := d.Write(at, nil); e != api.ErrArg {
			t.Error(at, e)
		}
	}
	if e := d.Write(0, make([]byte, 65)); e != api.ErrArg {
		t.Error(e)
	}
	if d.Pending() != 3 || d.Writes() != 3 {
		t.Error("what is an error is neither pending nor counted")
	}
	d.Limit(0)
	if e := d.Write(5, nil); e != api.ErrArg || d.Dead() {
		t.Error("ErrArg is ahead of the limit")
	}
	if e := d.Write(0, nil); e != api.ErrCrash || !d.Dead() {
		t.Error(e)
	}
	if e := d.Write(5, nil); e != api.ErrCrash {
		t.Error(e)
	}
	if e := d.Sync(); e != api.ErrCrash {
		t.Error(e)
	}
}

func TestSyncLaysDown(t *testing.T) {
	d := made(t, 2)
	d.Write(0, []byte("a"))
	d.Write(1, []byte("b"))
	d.Write(0, []byte("c"))
	if d.Pending() != 3 || d.Sync() != api.OK || d.Pending() != 0 || d.Writes() != 4 {
		t.Error("Sync")
	}
	d.Write(1, []byte("d"))
	d.Reopen(nil)
	holds(t, d, 0, "c")
	holds(t, d, 1, "b")
	d.Limit(0)
	d.Write(0, nil)
	d.Reopen(nil)
	holds(t, d, 0, "c")
}

// P6.4: Limit, Dead, Reopen, Writes, Pending.
func TestLimit(t *testing.T) {
	d := made(t, 1)
	d.Limit(2)
	if d.Write(0, []byte("a")) != api.OK || d.Sync() != api.OK || d.Dead() || d.Sync() != api.ErrCrash || !d.Dead() || d.Writes() != 2 {
		t.Error("a limit of 2")
	}
	d.Limit(9)
	if !d.Dead() || d.Write(0, nil) != api.ErrCrash {
		t.Error("what is dead stays so")
	}
	d.Reopen(nil)
	for range 100 {
		if d.Dead() || d.Write(0, []byte("b")) != api.OK {
			t.Fatal("no limit")
		}
	}
	d.Limit(1)
	d.Limit(-5)
	if d.Sync() != api.OK || d.Sync() != api.OK || d.Writes() != 104 {
		t.Error("no limit again", d.Writes())
	}
	d.Limit(math.MinInt)
	if d.Sync() != api.OK {
		t.Error("no limit")
	}
}

func TestReopen(t *testing.T) {
	for _, x := range []struct {
		keep []bool
		a, b string
	}{
		{nil, "0", ""}, {[]bool{}, "0", ""}, {[]bool{true}, "1", ""}, {[]bool{false, true}, "0", "2"}, {[]bool{true, true, true}, "3", "2"}, {[]bool{true, false, false}, "1", ""}, {[]bool{false, false, true, true, true}, "3", ""},
	} {
		for _, dead := range []bool{false, true} {
			d := made(t, 2)
			d.Write(0, []byte("0"))
			d.Sync()
			d.Write(0, []byte("1"))
			d.Write(1, []byte("2"))
			d.Write(0, []byte("3"))
			if dead {
				d.Limit(0)
				if d.Sync() != api.ErrCrash || d.Pending() != 3 {
					t.Error("what is pending stays so")
				}
			}
			d.Reopen(x.keep)
			if d.Dead() || d.Pending() != 0 || d.Writes() != 5 {
				t.Error("behind Reopen", d.Writes())
			}
			holds(t, d, 0, x.a)
			holds(t, d, 1, x.b)
			d.Sync()
			d.Reopen(nil)
			holds(t, d, 0, x.a)
			holds(t, d, 1, x.b)
		}
	}
	keep := []bool{true}
	d := made(t, 1)
	d.Write(0, []byte("a"))
	d.Reopen(keep)
	if !keep[0] {
		t.Error("keep is changed")
	}
}

// P6.5: what New did not make.
func TestNone(t *testing.T) {
	for _, d := range []*disk.Disk{nil, {}, new(disk.Disk)} {
		d.Limit(3)
		d.Reopen([]bool{true})
		if d.Size() != 0 || d.Writes() != 0 || d.Pending() != 0 || !d.Dead() {
			t.Error("numbers")
		}
		for _, at := range []int{0, -1} {
			if b, e := d.Read(at); b != nil || e != api.ErrCrash {
				t.Error("Read", e)
			}
			if e := d.Write(at, make([]byte, 99)); e != api.ErrCrash {
				t.Error("Write", e)
			}
		}
		if e := d.Sync(); e != api.ErrCrash {
			t.Error("Sync", e)
		}
	}
}

// TestAgainstALog holds a disk against a list of all that was written to it.
func TestAgainstALog(t *testing.T) {
	source := rand.New(rand.NewSource(1))
	for range 300 {
		d := made(t, 4)
		laid := [4]string{}
		type one struct {
			at int
			s  string
		}
		var pending []one
		count := 0
		for range 60 {
			switch source.Intn(10) {
			case 0:
				if d.Sync() != api.OK {
					t.Fatal("Sync")
				}
				count++
				for _, w := range pending {
					laid[w.at] = w.s
				}
				pending = nil
			case 1:
				keep := make([]bool, source.Intn(len(pending)+2))
				for i := range keep {
					keep[i] = source.Intn(2) == 0
				}
				d.Reopen(keep)
				for i, w := range pending {
					if i < len(keep) && keep[i] {
						laid[w.at] = w.s
					}
				}
				pending = nil
			default:
				w := one{source.Intn(4), string(rune('a' + source.Intn(26)))}
				if d.Write(w.at, []byte(w.s)) != api.OK {
					t.Fatal("Write")
				}
				count++
				pending = append(pending, w)
			}
			now := laid
			for _, w := range pending {
				now[w.at] = w.s
			}
			for at, s := range now {
				holds(t, d, at, s)
			}
			if d.Pending() != len(pending) || d.Writes() != count {
				t.Fatal(d.Pending(), d.Writes())
			}
		}
	}
}
