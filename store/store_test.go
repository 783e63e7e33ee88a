package store_test

import (
	"bytes"
	"encoding/binary"
	"hash/crc32"
	"math"
	"slices"
	"testing"

	"wainscot/api"
	"wainscot/crc"
	"wainscot/dir"
	"wainscot/disk"
	"wainscot/extent"
	"wainscot/lz"
	"wainscot/page"
	"wainscot/store"
	"wainscot/super"
)

// data is a page's bytes: n below 0 packs to few, else to many.
func data(n int) []byte {
	b := bytes.Repeat([]byte{byte(n)}, 144)
	if n >= 0 {
		x := uint64(n+1) * 2862933555777941757
		for i := range b {
			x ^= x << 13
			x ^= x >> 7
			x ^= x << 17
			b[i] = byte(x >> 40)
		}
	}
	return b
}

func newDisk(t *testing.T, n int) *disk.Disk {
	t.Helper()
	d, e := disk.New(n)
	if e != api.OK {
		t.Fatal(e)
	}
	return d
}

func format(t *testing.T, n, depth int, wrap bool) (*store.Store, *disk.Disk) {
	t.Helper()
	d := newDisk(t, n)
	s, e := store.Format(d, depth, wrap)
	if e != api.OK {
		t.Fatalf("Format of %d sectors: %d", n, e)
	}
	return s, d
}

func commit(t *testing.T, s *store.Store, l ...api.Item) {
	t.Helper()
	if e := s.Commit(l); e != api.OK {
		t.Fatalf("Commit: %d", e)
	}
}

func open(t *testing.T, d *disk.Disk) *store.Store {
	t.Helper()
	s, e := store.Open(d)
	if e != api.OK {
		t.Fatalf("Open: %d", e)
	}
	return s
}

// image is all of a disk.
func image(t *testing.T, d *disk.Disk) []byte {
	t.Helper()
	var b []byte
	for i := range d.Len() {
		s, e := d.Read(i)
		if e != api.OK {
			t.Fatal(e)
		}
		b = append(b, s...)
	}
	return b
}

// head is a block's sector.
func head(gen, d int, wrap bool, start, length int, sum uint32) []byte {
	b, e := super.Encode(crc.Make(), super.Block{Gen: gen, D: d, Wrap: wrap, Start: start, Len: length, Sum: sum})
	if e != api.OK {
		panic("no block")
	}
	return b
}

// put writes bytes at a sector.
func put(t *testing.T, d *disk.Disk, start int, b []byte) {
	t.Helper()
	b = append(bytes.Clone(b), make([]byte, (32-len(b)%32)%32)...)
	for i := 0; i < len(b); i += 32 {
		if e := d.Write(start+i/32, b[i:i+32]); e != api.OK {
			t.Fatal(e)
		}
	}
}

// holds checks that a store has just these pages, with these bytes.
func holds(t *testing.T, s *store.Store, want map[api.Page][]byte) {
	t.Helper()
	var l []api.Page
	for p := range page.All(s.Depth()) {
		b, there := want[p]
		if there {
			l = append(l, p)
		}
		got, e := s.Read(p)
		if s.Has(p) != there || there && (e != api.OK || !bytes.Equal(got, b)) || !there && (e != api.ErrNone || len(got) != 0) {
			t.Errorf("%v: %v, %d; want %v", p, s.Has(p), e, there)
		}
	}
	if got := slices.Collect(s.Pages()); !slices.Equal(got, l) {
		t.Errorf("Pages: %v; want %v", got, l)
	}
}

var (
	root = api.Page{L: 1}
	p00  = api.Page{}
	p10  = api.Page{X: 1}
	p01  = api.Page{Y: 1}
	p11  = api.Page{X: 1, Y: 1}
)

func TestFormat(t *testing.T) { // P13.1
	for depth := range 4 {
		for _, wrap := range []bool{false, true} {
			d := newDisk(t, 4)
			put(t, d, 0, bytes.Repeat([]byte{9}, 128))
			s, e := store.Format(d, depth, wrap)
			if e != api.OK || s.Gen() != 1 || s.Depth() != depth || s.Wrap() != wrap || s.Used() != 2 {
				t.Fatalf("Format: %d", e)
			}
			want := append(append(make([]byte, 32), head(1, depth, wrap, 0, 0, 0)...), bytes.Repeat([]byte{9}, 64)...)
			if !bytes.Equal(image(t, d), want) || d.Writes() != 6 {
				t.Errorf("Format writes %X", image(t, d))
			}
			holds(t, s, nil)
			holds(t, open(t, d), nil)
			d.Fuse(0, 0)
			d.Write(0, make([]byte, 32))
			d.Up()
			if o := open(t, d); o.Gen() != 1 || o.Depth() != depth || o.Wrap() != wrap || o.Used() != 2 {
				t.Error("what Format wrote is not flushed")
			}
		}
	}
}

func TestFormatRefuses(t *testing.T) { // P13.1
	for _, depth := range []int{-1, 4, math.MinInt, math.MaxInt} {
		if s, e := store.Format(newDisk(t, 8), depth, false); s != nil || e != api.ErrArg {
			t.Errorf("Format of depth %d: %d", depth, e)
		}
	}
	for n := 1; n < 4; n++ {
		if s, e := store.Format(newDisk(t, n), 0, false); s != nil || e != api.ErrArg {
			t.Errorf("Format of %d sectors: %d", n, e)
		}
	}
	if s, e := store.Format(nil, 0, false); s != nil || e != api.ErrArg {
		t.Errorf("Format of nil: %d", e)
	}
	for n := range 2 {
		d := newDisk(t, 4)
		d.Fuse(n, -1)
		if s, e := store.Format(d, 0, false); s != nil || e != api.ErrDown {
			t.Errorf("Format with a Fuse of %d: %d", n, e)
		}
		if s, e := store.Format(d, 0, false); s != nil || e != api.ErrDown {
			t.Errorf("Format of one that is down: %d", e)
		}
		if s, e := store.Format(d, 4, false); s != nil || e != api.ErrArg {
			t.Errorf("Format of one that is down, and no depth: %d", e)
		}
		d.Up()
		if s, e := store.Open(d); s != nil || e != api.ErrBad {
			t.Errorf("Open of what was not formatted: %d", e)
		}
	}
}

func TestOpenRefuses(t *testing.T) { // P13.1
	if s, e := store.Open(nil); s != nil || e != api.ErrArg {
		t.Errorf("Open of nil: %d", e)
	}
	if s, e := store.Open(newDisk(t, 8)); s != nil || e != api.ErrBad {
		t.Errorf("Open of noughts: %d", e)
	}
	if s, e := store.Open(newDisk(t, 1)); s != nil || e != api.ErrBad {
		t.Errorf("Open of one sector: %d", e)
	}
	_, d := format(t, 8, 0, false)
	d.Fuse(0, 0)
	d.Write(0, make([]byte, 32))
	if s, e := store.Open(d); s != nil || e != api.ErrDown {
		t.Errorf("Open of one that is down: %d", e)
	}
}

// TestOpenRight writes heads of all kinds, and sees which are right.
func TestOpenRight(t *testing.T) { // P13.1
	entry := func(key, start, length int, sum uint32) []byte {
		b := binary.BigEndian.AppendUint16(nil, uint16(key))
		b = binary.BigEndian.AppendUint16(b, uint16(start))
		b = binary.BigEndian.AppendUint16(b, uint16(length))
		return binary.BigEndian.AppendUint32(b, sum)
	}
	sum := crc32.ChecksumIEEE
	one := entry(0, 5, 33, 1)
	last := entry(0, 15, 32, 1)
	beyond := entry(0, 15, 33, 1)
	both := append(entry(0, 5, 33, 1), entry(3, 7, 1, 1)...)
	over := append(entry(0, 5, 33, 1), entry(3, 6, 1, 1)...)
	four := append(append(bytes.Clone(both), entry(4, 8, 1, 1)...), make([]byte, 2)...)
	for what, c := range map[string]struct {
		head  []byte
		at    int
		bytes []byte
		right bool
	}{
		"no pages":                       {head(5, 1, true, 0, 0, 0), 3, nil, true},
		"no pages, a sum":                {head(5, 1, true, 0, 0, 1), 3, nil, false},
		"no pages, a start":              {head(5, 1, true, 2, 0, 0), 3, nil, true},
		"no pages, the disk's end":       {head(5, 1, true, 16, 0, 0), 3, nil, true},
		"no pages, beyond its end":       {head(5, 1, true, 17, 0, 0), 3, nil, false},
		"no pages, a head's start":       {head(5, 1, true, 1, 0, 0), 3, nil, false},
		"one page":                       {head(5, 1, true, 3, 10, sum(one)), 3, one, true},
		"one page, a wrong sum":          {head(5, 1, true, 3, 10, sum(one)+1), 3, one, false},
		"one page, its start a head":     {head(5, 1, true, 1, 10, sum(one)), 1, one, false},
		"one page, no start":             {head(5, 1, true, 0, 10, sum(one)), 3, one, false},
		"one page, the last sector":      {head(5, 1, true, 15, 10, sum(one)), 15, one, true},
		"one page, its bytes beyond":     {head(5, 1, true, 16, 10, sum(one)), 3, one, false},
		"one page, its sectors the Dir":  {head(5, 1, true, 5, 10, sum(one)), 5, one, false},
		"one page, its second the Dir":   {head(5, 1, true, 6, 10, sum(one)), 6, one, false},
		"one page, beside the Dir":       {head(5, 1, true, 7, 10, sum(one)), 7, one, true},
		"a page at the end":              {head(5, 1, true, 3, 10, sum(last)), 3, last, true},
		"a page beyond the end":          {head(5, 1, true, 3, 10, sum(beyond)), 3, beyond, false},
		"two pages":                      {head(5, 1, true, 3, 20, sum(both)), 3, both, true},
		"two pages of another depth":     {head(5, 0, true, 3, 20, sum(both)), 3, both, false},
		"two pages over each other":      {head(5, 1, true, 3, 20, sum(over)), 3, over, false},
		"half a page":                    {head(5, 1, true, 3, 19, sum(both[:19])), 3, both, false},
		"two sectors of a Dir that bad":  {head(5, 1, true, 3, 32, sum(four)), 3, four, false},
		"three pages, an end in a page":  {head(5, 1, true, 9, 30, sum(four[:30])), 9, four, true},
		"three pages, a start in a page": {head(5, 1, true, 8, 30, sum(four[:30])), 8, four, false},
		"another depth than may be":      {append([]byte("WAIN\x00\x00\x00\x05\x04"), make([]byte, 23)...), 3, nil, false},
	} {
		for sector := range 2 {
			d := newDisk(t, 16)
			put(t, d, c.at, c.bytes)
			put(t, d, sector, c.head)
			s, e := store.Open(d)
			if c.right != (e == api.OK) || !c.right && (s != nil || e != api.ErrBad) {
				t.Errorf("%s: %d", what, e)
			}
			if c.right && (s.Gen() != 5 || s.Depth() != 1 || !s.Wrap()) {
				t.Errorf("%s: Gen %d, depth %d", what, s.Gen(), s.Depth())
			}
		}
	}
}

func TestOpenOfSmallOnes(t *testing.T) { // P13.1, P13.2
	for n := 1; n < 4; n++ {
		d := newDisk(t, n)
		put(t, d, 0, head(7, 0, true, 0, 0, 0))
		s := open(t, d)
		if s.Gen() != 7 || !s.Wrap() || s.Used() != min(n, 2) {
			t.Errorf("of %d sectors: %d, %d", n, s.Gen(), s.Used())
		}
		if e := s.Commit([]api.Item{{Data: data(-1)}}); e != api.ErrFull {
			t.Errorf("Commit on %d sectors: %d", n, e)
		}
	}
}

func TestOpenTakesTheNewer(t *testing.T) { // P13.1
	for _, c := range []struct{ first, second, want int }{{3, 4, 4}, {4, 3, 4}, {3, 3, 3}, {0, 3, 3}, {3, 0, 3}, {1<<32 - 1, 5, 1<<32 - 1}} {
		d := newDisk(t, 4)
		for i, gen := range []int{c.first, c.second} {
			if gen != 0 {
				put(t, d, i, head(gen, i, false, 0, 0, 0))
			}
		}
		s := open(t, d)
		depth := 0
		if c.first < c.second {
			depth = 1
		}
		if s.Gen() != c.want || s.Depth() != depth {
			t.Errorf("of %d and %d: %d", c.first, c.second, s.Gen())
		}
	}
}

// model does by plain means what Commit should do to a disk.
type model struct {
	image   []byte
	gen     int
	depth   int
	entries map[api.Page]api.Entry
	start   int
	length  int
}

func sectors(n int) int { return (n + 31) / 32 }

func (m *model) free() *extent.Map {
	used, _ := extent.New(len(m.image) / 32)
	used.Claim(0, 2)
	for _, e := range m.entries {
		used.Claim(e.Start, sectors(e.Len))
	}
	used.Claim(m.start, sectors(m.length))
	return used
}

func (m *model) put(start int, b []byte) {
	clear(m.image[32*start : 32*(start+sectors(len(b)))])
	copy(m.image[32*start:], b)
}

func (m *model) commit(l []api.Item) bool {
	used := m.free()
	next := map[api.Page]api.Entry{}
	for p, e := range m.entries {
		next[p] = e
	}
	packed := map[api.Page][]byte{}
	for _, it := range l {
		p, _ := lz.Pack(it.Data)
		start, e := used.Take(sectors(len(p)))
		if e != api.OK {
			return false
		}
		next[it.Page] = api.Entry{Page: it.Page, Start: start, Len: len(p), Sum: crc32.ChecksumIEEE(p)}
		packed[it.Page] = p
	}
	var entries []api.Entry
	for _, e := range next {
		entries = append(entries, e)
	}
	dd, _ := dir.New(m.depth, entries)
	start, e := used.Take(sectors(len(dd.Bytes())))
	if e != api.OK {
		return false
	}
	for p, b := range packed {
		m.put(next[p].Start, b)
	}
	m.put(start, dd.Bytes())
	m.gen++
	m.start, m.length, m.entries = start, len(dd.Bytes()), next
	m.put(m.gen%2, head(m.gen, m.depth, true, start, m.length, crc32.ChecksumIEEE(dd.Bytes())))
	return true
}

func TestCommitWritesWhatItShould(t *testing.T) { // P13.2, P13.3
	for _, size := range []int{20, 30, 64, 300} {
		s, d := format(t, size, 1, true)
		m := &model{image: image(t, d), gen: 1, depth: 1, entries: map[api.Page]api.Entry{}}
		held := map[api.Page][]byte{}
		full, done := 0, 0
		for round := range 40 {
			var l []api.Item
			for i := range 1 + round%3 {
				p, _ := page.At(1, (round*3+i*2)%5)
				n := round
				if round%4 == 0 {
					n = -round
				}
				l = append(l, api.Item{Page: p, Data: data(n)})
			}
			writes := d.Writes()
			e := s.Commit(l)
			if !m.commit(l) {
				full++
				if e != api.ErrFull || d.Writes() != writes {
					t.Fatalf("round %d on %d sectors: %d; want ErrFull", round, size, e)
				}
			} else {
				done++
				if e != api.OK {
					t.Fatalf("round %d on %d sectors: %d", round, size, e)
				}
				for _, it := range l {
					held[it.Page] = it.Data
				}
			}
			if !bytes.Equal(image(t, d), m.image) || s.Gen() != m.gen || s.Used() != m.free().Used() {
				t.Fatalf("round %d on %d sectors: the disk is not as it should be", round, size)
			}
			holds(t, s, held)
			o := open(t, d)
			if o.Gen() != m.gen || o.Used() != s.Used() || o.Depth() != 1 || !o.Wrap() {
				t.Fatalf("round %d: opened with Gen %d", round, o.Gen())
			}
			holds(t, o, held)
		}
		if done == 0 || size < 64 && full == 0 {
			t.Errorf("on %d sectors: %d done, %d full", size, done, full)
		}
	}
}

func TestCommitTakesNoOtherOrder(t *testing.T) { // P13.2
	s, d := format(t, 40, 1, true)
	commit(t, s, api.Item{Page: p11, Data: data(1)}, api.Item{Page: root, Data: data(-1)})
	a, _ := lz.Pack(data(1))
	b, _ := lz.Pack(data(-1))
	first, _ := d.Read(2)
	second, _ := d.Read(2 + sectors(len(a)))
	if !bytes.Equal(first, a[:32]) || !bytes.Equal(second[:len(b)], b) {
		t.Error("the pages don't stand in the order in which they came")
	}
	if d.Writes() != 2+sectors(len(a))+sectors(len(b))+1+1 {
		t.Errorf("Writes: %d", d.Writes())
	}
}

func TestCommitRefuses(t *testing.T) { // P13.2
	s, d := format(t, 60, 1, false)
	commit(t, s, api.Item{Page: root, Data: data(0)})
	before, writes := image(t, d), d.Writes()
	good := api.Item{Page: p00, Data: data(1)}
	for what, l := range map[string][]api.Item{
		"nothing":        nil,
		"no page":        {good, {Page: api.Page{L: 2}, Data: data(2)}},
		"no place":       {good, {Page: api.Page{X: 2}, Data: data(2)}},
		"a page twice":   {good, {Page: root, Data: data(2)}, good},
		"no bytes":       {good, {Page: root}},
		"too few bytes":  {good, {Page: root, Data: data(2)[:143]}},
		"too many bytes": {good, {Page: root, Data: append(data(2), 0)}},
	} {
		if e := s.Commit(l); e != api.ErrArg {
			t.Errorf("%s: %d", what, e)
		}
	}
	var many []api.Item
	for range 30 {
		many = append(many, good)
	}
	if e := s.Commit(many); e != api.ErrArg {
		t.Errorf("a page so often that there is no room: %d", e)
	}
	if !bytes.Equal(image(t, d), before) || d.Writes() != writes || s.Gen() != 2 {
		t.Error("a Commit that was refused has written something")
	}
	holds(t, s, map[api.Page][]byte{root: data(0)})
}

func TestCommitOfTheLastGen(t *testing.T) { // P13.2
	d := newDisk(t, 30)
	put(t, d, 1, head(1<<32-2, 0, false, 0, 0, 0))
	s := open(t, d)
	commit(t, s, api.Item{Data: data(1)})
	if s.Gen() != 1<<32-1 {
		t.Fatalf("Gen: %d", s.Gen())
	}
	before := image(t, d)
	if e := s.Commit([]api.Item{{Data: data(2)}}); e != api.ErrFull {
		t.Errorf("one more: %d", e)
	}
	if e := s.Commit(nil); e != api.ErrArg {
		t.Errorf("one more of nothing: %d", e)
	}
	if !bytes.Equal(image(t, d), before) {
		t.Error("one more has written something")
	}
	holds(t, s, map[api.Page][]byte{{}: data(1)})
}

func TestOffAtAnyWrite(t *testing.T) { // P13.2, P13.4
	batch := []api.Item{{Page: p10, Data: data(8)}, {Page: root, Data: data(-9)}, {Page: p01, Data: data(10)}}
	old := map[api.Page][]byte{root: data(1), p10: data(2), p11: data(3)}
	behind := map[api.Page][]byte{root: data(-9), p10: data(8), p11: data(3), p01: data(10)}
	for _, mask := range []int{0, 1, -1, 0x55555555, 0xAAAAAAAA, 0x0F0F0F0F, 2, 1 << 4} {
		for n := 0; ; n++ {
			s, d := format(t, 60, 1, true)
			commit(t, s, api.Item{Page: root, Data: data(1)}, api.Item{Page: p10, Data: data(2)}, api.Item{Page: p11, Data: data(3)})
			if e := d.Fuse(n, mask); e != api.OK {
				t.Fatal(e)
			}
			e := s.Commit(batch)
			if e == api.OK {
				holds(t, s, behind)
				if n == 0 {
					t.Error("a Commit without a write")
				}
				break
			}
			if e != api.ErrDown || !d.Down() {
				t.Fatalf("off at write %d: %d", n, e)
			}
			if _, e := s.Read(root); e != api.ErrDown {
				t.Errorf("Read while it is down: %d", e)
			}
			d.Up()
			deadStore(t, s)
			o := open(t, d)
			if o.Gen() != 2 {
				t.Errorf("off at write %d: Gen %d", n, o.Gen())
			}
			holds(t, o, old)
			if e := o.Commit(batch); e != api.OK {
				t.Fatalf("once more, behind write %d: %d", n, e)
			}
			holds(t, open(t, d), behind)
		}
	}
}

// deadStore checks one whose Commit found the disk down.
func deadStore(t *testing.T, s *store.Store) {
	t.Helper()
	for _, l := range [][]api.Item{nil, {{Page: root, Data: data(1)}}, {{Page: api.Page{L: 7}}}} {
		if e := s.Commit(l); e != api.ErrDown {
			t.Errorf("Commit from then on: %d", e)
		}
	}
	for _, p := range []api.Page{root, p00, {L: 9}} {
		if b, e := s.Read(p); len(b) != 0 || e != api.ErrDown {
			t.Errorf("Read of %v from then on: %d", p, e)
		}
	}
	if s.Gen() != 2 || !s.Has(root) || s.Has(p01) {
		t.Errorf("it has another Gen: %d", s.Gen())
	}
}

func TestDownOtherwise(t *testing.T) { // P13.2, P13.3
	s, d := format(t, 60, 1, true)
	commit(t, s, api.Item{Page: root, Data: data(1)})
	d.Fuse(0, 0)
	d.Write(5, make([]byte, 32))
	if b, e := s.Read(root); len(b) != 0 || e != api.ErrDown {
		t.Errorf("Read while it is down: %d", e)
	}
	if b, e := s.Read(p00); len(b) != 0 || e != api.ErrNone {
		t.Errorf("Read of none while it is down: %d", e)
	}
	if e := s.Commit(nil); e != api.ErrArg {
		t.Errorf("Commit of nothing while it is down: %d", e)
	}
	d.Up()
	holds(t, s, map[api.Page][]byte{root: data(1)})
	commit(t, s, api.Item{Page: root, Data: data(2)})
	d.Fuse(0, 0)
	d.Write(5, make([]byte, 32))
	if e := s.Commit([]api.Item{{Page: root, Data: data(1)}}); e != api.ErrDown {
		t.Errorf("Commit while it is down: %d", e)
	}
	d.Up()
	if _, e := s.Read(root); e != api.ErrDown {
		t.Errorf("Read behind a Commit while it was down: %d", e)
	}
}

func TestReadOfABrokenOne(t *testing.T) { // P13.3
	s, d := format(t, 60, 1, true)
	commit(t, s, api.Item{Page: root, Data: data(1)}, api.Item{Page: p00, Data: data(2)})
	packed, _ := lz.Pack(data(1))
	for bit := 0; bit < 8*len(packed); bit += 5 {
		at, in := 2+bit/256, bit%256
		d.Corrupt(at, in)
		if b, e := s.Read(root); len(b) != 0 || e != api.ErrBad {
			t.Fatalf("bit %d: %d", bit, e)
		}
		if b, e := s.Read(p00); e != api.OK || !bytes.Equal(b, data(2)) {
			t.Fatalf("bit %d breaks another page: %d", bit, e)
		}
		d.Corrupt(at, in)
	}
	holds(t, open(t, d), map[api.Page][]byte{root: data(1), p00: data(2)})
	d.Corrupt(2, 0)
	if o := open(t, d); !o.Has(root) {
		t.Error("a page's bytes are none of Open's")
	} else if _, e := o.Read(root); e != api.ErrBad {
		t.Errorf("Read of a broken one: %d", e)
	}
}

// TestReadOfWrongBytes has bytes whose Sum is right, but that are no page.
func TestReadOfWrongBytes(t *testing.T) { // P13.3
	short, _ := lz.Pack(data(1)[:143])
	long, _ := lz.Pack(append(data(1), 1))
	for what, b := range map[string][]byte{"too few": short, "too many": long, "none that unpack": {1, 2, 3}} {
		d := newDisk(t, 30)
		list, e := dir.New(0, []api.Entry{{Start: 10, Len: len(b), Sum: crc32.ChecksumIEEE(b)}})
		if e != api.OK {
			t.Fatal(e)
		}
		put(t, d, 10, b)
		put(t, d, 3, list.Bytes())
		put(t, d, 0, head(2, 0, false, 3, 10, crc32.ChecksumIEEE(list.Bytes())))
		s := open(t, d)
		if got, e := s.Read(p00); !s.Has(p00) || len(got) != 0 || e != api.ErrBad {
			t.Errorf("%s: %d", what, e)
		}
	}
}

func TestOpenFallsBack(t *testing.T) { // P13.1
	s, d := format(t, 60, 1, true)
	commit(t, s, api.Item{Page: root, Data: data(1)})
	commit(t, s, api.Item{Page: p00, Data: data(2)})
	d.Corrupt(1, 77)
	holds(t, open(t, d), map[api.Page][]byte{root: data(1)})
	d.Corrupt(1, 77)
	holds(t, open(t, d), map[api.Page][]byte{root: data(1), p00: data(2)})
	block, _ := d.Read(1)
	b, _ := super.Decode(crc.Make(), block)
	d.Corrupt(b.Start, 3)
	if o := open(t, d); o.Gen() != 2 {
		t.Errorf("with a Dir that is broken: Gen %d", o.Gen())
	}
	d.Corrupt(0, 3)
	if o, e := store.Open(d); o != nil || e != api.ErrBad {
		t.Errorf("none is right: %d", e)
	}
}

func TestNil(t *testing.T) { // P13.3
	var s *store.Store
	b, e := s.Read(root)
	if s.Commit([]api.Item{{Data: data(1)}}) != api.ErrArg || len(b) != 0 || e != api.ErrNone || s.Has(p00) || s.Gen() != 0 || s.Depth() != 0 || s.Wrap() || s.Used() != 0 || len(slices.Collect(s.Pages())) != 0 {
		t.Error("a nil Store")
	}
}

func TestPagesEndsEarly(t *testing.T) { // P13.3
	s, _ := format(t, 60, 1, true)
	commit(t, s, api.Item{Page: p11, Data: data(-1)}, api.Item{Page: root, Data: data(-2)}, api.Item{Page: p10, Data: data(-3)})
	var l []api.Page
	for p := range s.Pages() {
		l = append(l, p)
		if len(l) == 2 {
			break
		}
	}
	if !slices.Equal(l, []api.Page{root, p10}) {
		t.Errorf("the first two: %v", l)
	}
}

func TestNewMemory(t *testing.T) { // P13.4
	s, _ := format(t, 60, 1, true)
	in := []api.Item{{Page: root, Data: data(1)}}
	commit(t, s, in...)
	clear(in[0].Data)
	in[0].Page = p00
	got, _ := s.Read(root)
	if !bytes.Equal(got, data(1)) {
		t.Error("Commit keeps what is handed in")
	}
	clear(got)
	holds(t, s, map[api.Page][]byte{root: data(1)})
}
