package disk_test

import (
	"bytes"
	"math"
	"slices"
	"testing"

	"wainscot/api"
	"wainscot/disk"
)

// full is 32 bytes of n.
func full(n byte) []byte { return bytes.Repeat([]byte{n}, 32) }

func make1(t *testing.T, n int) *disk.Disk {
	t.Helper()
	d, e := disk.New(n)
	if e != api.OK || d.Len() != n {
		t.Fatalf("New(%d): %d", n, e)
	}
	return d
}

// reads checks a sector's bytes.
func reads(t *testing.T, d *disk.Disk, i int, want []byte) {
	t.Helper()
	if got, e := d.Read(i); e != api.OK || !bytes.Equal(got, want) {
		t.Errorf("sector %d: %v, %d; want %v", i, got, e, want)
	}
}

func ok(t *testing.T, e api.Errno) {
	t.Helper()
	if e != api.OK {
		t.Errorf("refused: %d", e)
	}
}

// off turns one off, with this mask.
func off(t *testing.T, d *disk.Disk, mask int) {
	t.Helper()
	ok(t, d.Fuse(0, mask))
	if e := d.Write(0, full(99)); e != api.ErrDown || !d.Down() {
		t.Fatalf("a write that should find it down: %d, %v", e, d.Down())
	}
}

func TestNew(t *testing.T) { // P8.1
	for _, n := range []int{0, -1, 2049, math.MinInt, math.MaxInt} {
		if d, e := disk.New(n); d != nil || e != api.ErrArg {
			t.Errorf("New(%d): %v, %d", n, d, e)
		}
	}
	make1(t, 2048)
	d := make1(t, 1)
	reads(t, d, 0, full(0))
	if d.Writes() != 0 || d.Down() || len(d.Up()) != 0 {
		t.Error("a new one is not at rest")
	}
}

func TestReadAndWrite(t *testing.T) { // P8.1
	d := make1(t, 3)
	ok(t, d.Write(1, full(7)))
	ok(t, d.Write(1, full(8)))
	ok(t, d.Write(2, full(9)))
	reads(t, d, 0, full(0))
	reads(t, d, 1, full(8))
	ok(t, d.Flush())
	reads(t, d, 1, full(8))
	reads(t, d, 2, full(9))
	ok(t, d.Write(1, full(10)))
	reads(t, d, 1, full(10))
	if d.Writes() != 4 {
		t.Errorf("Writes: %d", d.Writes())
	}
	for _, i := range []int{-1, 3, math.MinInt, math.MaxInt} {
		if b, e := d.Read(i); e != api.ErrArg || len(b) != 0 {
			t.Errorf("Read(%d): %v, %d", i, b, e)
		}
		if e := d.Write(i, full(1)); e != api.ErrArg {
			t.Errorf("Write(%d): %d", i, e)
		}
	}
	for _, n := range []int{0, 31, 33} {
		if e := d.Write(0, make([]byte, n)); e != api.ErrArg {
			t.Errorf("Write of %d bytes: %d", n, e)
		}
	}
	if d.Writes() != 4 {
		t.Errorf("Writes behind those that were refused: %d", d.Writes())
	}
}

func TestHeldBackIsLost(t *testing.T) { // P8.1, P8.2, P8.3
	d := make1(t, 4)
	ok(t, d.Write(1, full(1)))
	ok(t, d.Flush())
	ok(t, d.Write(1, full(2)))
	ok(t, d.Write(2, full(3)))
	off(t, d, 0)
	if l := d.Up(); len(l) != 0 || d.Down() {
		t.Errorf("Up: %v", l)
	}
	reads(t, d, 0, full(0))
	reads(t, d, 1, full(1))
	reads(t, d, 2, full(0))
	ok(t, d.Write(2, full(4)))
	ok(t, d.Flush())
	off(t, d, 0)
	d.Up()
	reads(t, d, 2, full(4))
}

func TestFlushedIsHeldBackNoMore(t *testing.T) { // P8.1, P8.2, P8.3
	d := make1(t, 5)
	ok(t, d.Write(1, full(1)))
	ok(t, d.Write(3, full(3)))
	ok(t, d.Flush())
	ok(t, d.Write(4, full(4)))
	ok(t, d.Flush())
	ok(t, d.Flush())
	for i, n := range []byte{0, 1, 0, 3, 4} {
		reads(t, d, i, full(n))
	}
	ok(t, d.Write(2, full(2)))
	ok(t, d.Write(4, full(5)))
	off(t, d, 2) // the second one that is held back
	if got := d.Up(); !slices.Equal(got, []int{4}) {
		t.Errorf("Up: %v", got)
	}
	for i, n := range []byte{0, 1, 0, 3, 5} {
		reads(t, d, i, full(n))
	}
	off(t, d, -1)
	if got := d.Up(); len(got) != 0 {
		t.Errorf("what was flushed is held back: %v", got)
	}
}

func TestExample(t *testing.T) { // P8.2
	d := make1(t, 1)
	ok(t, d.Fuse(0, 0))
	if e := d.Write(0, full(5)); e != api.ErrDown {
		t.Errorf("Write: %d", e)
	}
	if l := d.Up(); len(l) != 0 {
		t.Errorf("Up: %v", l)
	}
	reads(t, d, 0, full(0))
}

func TestFuseCountsWrites(t *testing.T) { // P8.2
	for n := range 5 {
		d := make1(t, 2)
		ok(t, d.Fuse(1, 0))
		ok(t, d.Fuse(n, 0)) // in the place of the elder one
		for k := range n {
			d.Write(9, full(1)) // not done: doesn't count
			d.Write(0, nil)
			ok(t, d.Flush())
			ok(t, d.Write(k%2, full(byte(k))))
		}
		if d.Down() {
			t.Fatal("down ahead of its time")
		}
		if e := d.Write(5, full(1)); e != api.ErrArg || d.Down() {
			t.Errorf("a wrong write blows the fuse: %d", e)
		}
		if e := d.Write(1, full(77)); e != api.ErrDown || !d.Down() || d.Writes() != n {
			t.Errorf("behind %d writes: %d, %v, %d", n, e, d.Down(), d.Writes())
		}
		d.Up()
		for range 10 {
			ok(t, d.Write(0, full(1))) // it has no Fuse any more
		}
		if d.Writes() != n+10 {
			t.Errorf("Writes: %d", d.Writes())
		}
	}
}

func TestFuseRefuses(t *testing.T) { // P8.2
	d := make1(t, 1)
	for _, n := range []int{-1, 1<<20 + 1, math.MinInt, math.MaxInt} {
		if e := d.Fuse(n, 0); e != api.ErrArg {
			t.Errorf("Fuse(%d): %d", n, e)
		}
	}
	for range 3 {
		ok(t, d.Write(0, full(1)))
	}
	ok(t, d.Fuse(1<<20, 0))
	ok(t, d.Fuse(0, 0))
	d.Fuse(-1, 0)
	if e := d.Write(0, full(2)); e != api.ErrDown {
		t.Errorf("a Fuse that was refused has undone the elder one: %d", e)
	}
}

func TestUpByMask(t *testing.T) { // P8.2
	for _, mask := range []int{0, 1, 2, 3, 0b1010, 1 << 31, 1<<32 - 1, 1 << 32, 1 << 40, -1, -2, -1 << 31, math.MinInt, math.MaxInt} {
		d := make1(t, 80)
		var order, want []int
		for i := 1; i < 80; i += 2 {
			order = append(order, i)
		}
		for k := range order { // from the last one to the first one: the order of writing is not that of sectors
			ok(t, d.Write(order[len(order)-1-k], full(byte(order[len(order)-1-k]))))
		}
		off(t, d, mask)
		for k, i := range order {
			if mask>>(k%32)&1 == 1 {
				want = append(want, i)
			}
		}
		if got := d.Up(); !slices.Equal(got, want) {
			t.Errorf("Up with %x: %v; want %v", mask, got, want)
		}
		for i := range 80 {
			wantByte := byte(0)
			if slices.Contains(want, i) {
				wantByte = byte(i)
			}
			reads(t, d, i, full(wantByte))
		}
		off(t, d, -1)
		if got := d.Up(); len(got) != 0 {
			t.Errorf("something is held back behind Up: %v", got)
		}
	}
}

func TestUpTakesTheLastFuse(t *testing.T) { // P8.2
	d := make1(t, 3)
	ok(t, d.Fuse(5, -1))
	ok(t, d.Write(1, full(1)))
	ok(t, d.Write(2, full(2)))
	off(t, d, 2)
	if got := d.Up(); !slices.Equal(got, []int{2}) {
		t.Errorf("Up: %v", got)
	}
}

func TestUpOfOneThatIsNotDown(t *testing.T) { // P8.2
	d := make1(t, 2)
	ok(t, d.Write(1, full(1)))
	ok(t, d.Fuse(1, 0))
	if got := d.Up(); len(got) != 0 {
		t.Errorf("Up: %v", got)
	}
	reads(t, d, 1, full(1))
	ok(t, d.Write(0, full(2)))
	if e := d.Write(0, full(3)); e != api.ErrDown {
		t.Errorf("Up has undone the Fuse: %d", e)
	}
}

func TestDown(t *testing.T) { // P8.1, P8.2
	d := make1(t, 2)
	off(t, d, 0)
	if b, e := d.Read(0); e != api.ErrDown || len(b) != 0 {
		t.Errorf("Read: %d", e)
	}
	if _, e := d.Read(-1); e != api.ErrDown {
		t.Errorf("Read of no sector: %d", e)
	}
	for what, e := range map[string]api.Errno{"Write": d.Write(0, full(1)), "Write of none": d.Write(7, nil), "Flush": d.Flush(), "Fuse": d.Fuse(1, 0), "Fuse of none": d.Fuse(-1, 0), "Corrupt": d.Corrupt(0, 0), "Corrupt of none": d.Corrupt(-1, -1)} {
		if e != api.ErrDown {
			t.Errorf("%s: %d", what, e)
		}
	}
	if d.Len() != 2 || d.Writes() != 0 || !d.Down() {
		t.Errorf("down: %d, %d, %v", d.Len(), d.Writes(), d.Down())
	}
	d.Up()
	reads(t, d, 0, full(0))
}

func TestCorrupt(t *testing.T) { // P8.2
	for bit := range 256 {
		d := make1(t, 3)
		ok(t, d.Write(1, full(0x55)))
		ok(t, d.Flush())
		ok(t, d.Write(1, full(0x0F)))
		ok(t, d.Corrupt(1, bit))
		held, kept := full(0x0F), full(0x55)
		held[bit/8] ^= 1 << (bit % 8)
		kept[bit/8] ^= 1 << (bit % 8)
		reads(t, d, 1, held)
		reads(t, d, 2, full(0))
		off(t, d, 0)
		d.Up()
		reads(t, d, 1, kept)
		ok(t, d.Corrupt(1, bit))
		reads(t, d, 1, full(0x55))
		if d.Writes() != 2 {
			t.Errorf("Corrupt is no Write: %d", d.Writes())
		}
		off(t, d, -1)
		if l := d.Up(); len(l) != 0 {
			t.Errorf("what was corrupted is held back: %v", l)
		}
	}
	d := make1(t, 2)
	for _, c := range [][2]int{{-1, 0}, {2, 0}, {0, -1}, {0, 256}, {math.MinInt, math.MinInt}, {math.MaxInt, math.MaxInt}} {
		if e := d.Corrupt(c[0], c[1]); e != api.ErrArg {
			t.Errorf("Corrupt(%d, %d): %d", c[0], c[1], e)
		}
	}
}

func TestNil(t *testing.T) { // P8.2
	var d *disk.Disk
	b, e := d.Read(0)
	if len(b) != 0 || e != api.ErrDown || d.Write(0, full(0)) != api.ErrDown || d.Flush() != api.ErrDown || d.Fuse(0, 0) != api.ErrDown || d.Corrupt(0, 0) != api.ErrDown {
		t.Error("a nil Disk is not down")
	}
	if d.Len() != 0 || d.Down() || len(d.Up()) != 0 || d.Writes() != 0 {
		t.Error("a nil Disk has something")
	}
}

func TestNewMemory(t *testing.T) { // P8.3
	d := make1(t, 1)
	in := full(1)
	ok(t, d.Write(0, in))
	clear(in)
	reads(t, d, 0, full(1))
	out, _ := d.Read(0)
	clear(out)
	reads(t, d, 0, full(1))
	ok(t, d.Flush())
	out, _ = d.Read(0)
	clear(out)
	reads(t, d, 0, full(1))
}
