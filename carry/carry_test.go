package carry_test

import (
	"bytes"
	"slices"
	"testing"

	"wainscot/api"
	"wainscot/carry"
	"wainscot/cut"
	"wainscot/disk"
	"wainscot/mips"
	"wainscot/page"
	"wainscot/store"
)

// texture is one of many colours, the same ones each time.
func texture(d int, wrap bool) api.Texture {
	side := 4 << d
	t := api.Texture{D: d, Wrap: wrap}
	x := uint64(d+1) * 2862933555777941757
	for range side * side {
		x ^= x << 13
		x ^= x >> 7
		x ^= x << 17
		t.Texels = append(t.Texels, api.Colour{byte(x >> 20), byte(x >> 30), byte(x >> 40), byte(x >> 50)})
	}
	return t
}

// plain is one of one colour.
func plain(d int) api.Texture {
	return api.Texture{D: d, Texels: slices.Repeat([]api.Colour{{9, 8, 7, 6}}, 16<<(2*d))}
}

func build(t *testing.T, tex api.Texture) *mips.Pyramid {
	t.Helper()
	m, e := mips.Build(tex)
	if e != api.OK {
		t.Fatal(e)
	}
	return m
}

func newDisk(t *testing.T, n int) *disk.Disk {
	t.Helper()
	d, e := disk.New(n)
	if e != api.OK {
		t.Fatal(e)
	}
	return d
}

func in(t *testing.T, d *disk.Disk, tex api.Texture) *store.Store {
	t.Helper()
	s, e := carry.In(d, tex)
	if e != api.OK {
		t.Fatalf("In: %d", e)
	}
	return s
}

// holds checks that a store has all of a pyramid.
func holds(t *testing.T, s *store.Store, m *mips.Pyramid) {
	t.Helper()
	for p, b := range cut.All(m) {
		if got, e := s.Read(p); e != api.OK || !bytes.Equal(got, b) {
			t.Errorf("%v: %d", p, e)
		}
	}
}

func TestIn(t *testing.T) { // P16.1, P16.2
	for d := range 4 {
		for _, wrap := range []bool{false, true} {
			tex := texture(d, wrap)
			disk := newDisk(t, 1000)
			s := in(t, disk, tex)
			if s.Gen() != 2 || s.Depth() != d || s.Wrap() != wrap || !carry.Whole(s) {
				t.Errorf("depth %d, %v: Gen %d", d, wrap, s.Gen())
			}
			holds(t, s, build(t, tex))
			opened, e := store.Open(disk)
			if e != api.OK || opened.Gen() != 2 || !carry.Whole(opened) {
				t.Errorf("opened: %d", e)
			}
			holds(t, opened, build(t, tex))
			if !slices.Equal(tex.Texels, texture(d, wrap).Texels) {
				t.Error("what was handed in is changed")
			}
		}
	}
}

func TestInRefuses(t *testing.T) { // P16.1
	bad := texture(1, false)
	bad.Texels = bad.Texels[1:]
	for what, c := range map[string]struct {
		d   *disk.Disk
		tex api.Texture
		e   api.Errno
	}{
		"nil":                            {nil, texture(0, false), api.ErrArg},
		"a wrong texture":                {newDisk(t, 100), bad, api.ErrArg},
		"a depth that is none":           {newDisk(t, 100), api.Texture{D: 4}, api.ErrArg},
		"three sectors":                  {newDisk(t, 3), plain(0), api.ErrArg},
		"four sectors":                   {newDisk(t, 4), texture(0, false), api.ErrFull},
		"a disk that is a bit too small": {newDisk(t, 100), texture(2, false), api.ErrFull},
	} {
		if s, e := carry.In(c.d, c.tex); s != nil || e != c.e {
			t.Errorf("%s: %d", what, e)
		}
	}
	for n := range 6 {
		d := newDisk(t, 100)
		d.Fuse(n, -1)
		if s, e := carry.In(d, texture(0, false)); s != nil || e != api.ErrDown {
			t.Errorf("with a Fuse of %d: %d", n, e)
		}
		if s, e := carry.In(d, bad); s != nil || e != api.ErrArg {
			t.Errorf("a wrong texture on one that is down: %d", e)
		}
	}
}

func TestUpdate(t *testing.T) { // P16.1, P16.2
	for _, c := range [][4]int{{0, 0, 1, 1}, {3, 3, 2, 2}, {0, 0, 16, 16}, {15, 15, 1, 1}, {5, 0, 1, 16}} {
		a := build(t, texture(2, true))
		disk := newDisk(t, 600)
		s := in(t, disk, a.Texture())
		b, _ := a.With(c[0], c[1], c[2], c[3], make([]api.Colour, c[2]*c[3]))
		var want []api.Page
		for _, it := range cut.Changed(a, b) {
			want = append(want, it.Page)
		}
		got, e := carry.Update(s, a, b)
		if e != api.OK || !slices.Equal(got, want) || len(want) == 0 || s.Gen() != 3 {
			t.Errorf("Update(%v): %v, %d; want %v", c, got, e, want)
		}
		holds(t, s, b)
		writes := disk.Writes()
		if got, e := carry.Update(s, b, b); e != api.OK || len(got) != 0 || s.Gen() != 3 || disk.Writes() != writes {
			t.Errorf("Update of nothing: %v, %d", got, e)
		}
	}
}

func TestUpdateRefuses(t *testing.T) { // P16.1
	a := build(t, texture(1, true))
	s := in(t, newDisk(t, 100), a.Texture())
	other, _ := a.With(0, 0, 1, 1, []api.Colour{{1}})
	unwrapped := build(t, texture(1, false))
	for what, c := range map[string]struct {
		s    *store.Store
		a, b *mips.Pyramid
	}{
		"no store": {nil, a, other}, "no elder one": {s, nil, other}, "no newer one": {s, a, nil},
		"another depth": {s, a, build(t, texture(2, true))}, "another Wrap": {s, a, unwrapped}, "another Wrap alike": {s, unwrapped, unwrapped},
	} {
		if got, e := carry.Update(c.s, c.a, c.b); len(got) != 0 || e != api.ErrArg {
			t.Errorf("%s: %v, %d", what, got, e)
		}
	}
	if s.Gen() != 2 {
		t.Errorf("Gen: %d", s.Gen())
	}
	holds(t, s, a)
	if got, e := carry.Update(s, build(t, texture(2, true)), other); e != api.OK || len(got) != 5 {
		t.Errorf("of an elder one of another depth: %v, %d", got, e)
	}
	holds(t, s, other)
}

func TestUpdateFullAndDown(t *testing.T) { // P16.1
	a := build(t, texture(0, false))
	b, _ := a.With(0, 0, 4, 4, texture(1, false).Texels[:16])
	s := in(t, newDisk(t, 10), a.Texture())
	if got, e := carry.Update(s, a, b); len(got) != 0 || e != api.ErrFull || s.Gen() != 2 {
		t.Errorf("on a disk that is full: %v, %d", got, e)
	}
	holds(t, s, a)
	disk := newDisk(t, 60)
	s = in(t, disk, a.Texture())
	disk.Fuse(3, 0)
	if got, e := carry.Update(s, a, b); len(got) != 0 || e != api.ErrDown {
		t.Errorf("on a disk that goes down: %v, %d", got, e)
	}
	disk.Up()
	opened, _ := store.Open(disk)
	holds(t, opened, a)
}

func TestOneColour(t *testing.T) { // P16.1
	s := in(t, newDisk(t, 200), plain(2))
	first, _ := s.Read(api.Page{})
	for p := range page.All(2) {
		if b, e := s.Read(p); e != api.OK || !bytes.Equal(b, first) {
			t.Errorf("%v: %d", p, e)
		}
	}
}

func TestWhole(t *testing.T) { // P16.1
	if carry.Whole(nil) {
		t.Error("nil")
	}
	d := newDisk(t, 200)
	s, _ := store.Format(d, 1, false)
	if carry.Whole(s) {
		t.Error("an empty one")
	}
	m := build(t, texture(1, false))
	n := 0
	for p, b := range cut.All(m) {
		if carry.Whole(s) {
			t.Errorf("with %d pages", n)
		}
		if e := s.Commit([]api.Item{{Page: p, Data: b}}); e != api.OK {
			t.Fatal(e)
		}
		n++
	}
	if !carry.Whole(s) {
		t.Error("with all pages")
	}
	d.Corrupt(2, 9)
	if carry.Whole(s) {
		t.Error("with a page that is broken")
	}
	d.Corrupt(2, 9)
	if !carry.Whole(s) {
		t.Error("mended")
	}
}
