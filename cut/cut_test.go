package cut_test

import (
	"bytes"
	"math"
	"testing"

	"wainscot/api"
	"wainscot/cut"
	"wainscot/mips"
	"wainscot/page"
)

// pyramid is one of many colours, the same ones each time.
func pyramid(t *testing.T, d int, wrap bool) *mips.Pyramid {
	t.Helper()
	side := 4 << d
	tex := api.Texture{D: d, Wrap: wrap}
	x := uint64(d+1) * 2862933555777941757
	for range side * side {
		x ^= x << 13
		x ^= x >> 7
		x ^= x << 17
		tex.Texels = append(tex.Texels, api.Colour{byte(x >> 20), byte(x >> 30), byte(x >> 40), byte(x >> 50)})
	}
	m, e := mips.Build(tex)
	if e != api.OK {
		t.Fatal(e)
	}
	return m
}

// bytesOf is a page's, texel by texel.
func bytesOf(m *mips.Pyramid, p api.Page) []byte {
	var b []byte
	for i := range 36 {
		c := m.At(p.L, 4*p.X+i%6-1, 4*p.Y+i/6-1)
		b = append(b, c[0], c[1], c[2], c[3])
	}
	return b
}

func TestPage(t *testing.T) { // P15.1
	for d := range 4 {
		for _, wrap := range []bool{false, true} {
			m := pyramid(t, d, wrap)
			for p := range page.All(d) {
				b, e := cut.Page(m, p)
				if e != api.OK || !bytes.Equal(b, bytesOf(m, p)) {
					t.Fatalf("Page(%v) of depth %d: %d", p, d, e)
				}
			}
			for _, p := range []api.Page{{L: d + 1}, {L: -1}, {X: -1}, {Y: -1}, {X: 1 << d}, {Y: 1 << d}, {L: d, X: 1}, {L: math.MaxInt}, {X: math.MinInt}} {
				if b, e := cut.Page(m, p); len(b) != 0 || e != api.ErrArg {
					t.Errorf("Page(%v) of depth %d: %d", p, d, e)
				}
			}
		}
	}
	if b, e := cut.Page(nil, api.Page{}); len(b) != 0 || e != api.ErrArg {
		t.Errorf("Page of nil: %d", e)
	}
}

func TestExample(t *testing.T) { // P15.1
	for _, wrap := range []bool{false, true} {
		m := pyramid(t, 0, wrap)
		b, _ := cut.Page(m, api.Page{})
		for y := range 4 {
			want := m.At(0, 0, y)
			if wrap {
				want = m.At(0, 3, y)
			}
			if got, ok := cut.Texel(b, -1, y); got != want || !ok {
				t.Errorf("the left border, %v: %v; want %v", wrap, got, want)
			}
		}
	}
}

func TestTexel(t *testing.T) { // P15.1
	b := make([]byte, 144)
	for i := range b {
		b[i] = byte(i)
	}
	for i := range 36 {
		want := api.Colour{byte(4 * i), byte(4*i + 1), byte(4*i + 2), byte(4*i + 3)}
		if got, ok := cut.Texel(b, i%6-1, i/6-1); got != want || !ok {
			t.Errorf("Texel(%d, %d): %v, %v", i%6-1, i/6-1, got, ok)
		}
	}
	for _, c := range [][2]int{{-2, 0}, {0, -2}, {5, 0}, {0, 5}, {math.MinInt, 0}, {0, math.MaxInt}} {
		if got, ok := cut.Texel(b, c[0], c[1]); got != (api.Colour{}) || ok {
			t.Errorf("Texel(%v): %v, %v", c, got, ok)
		}
	}
	for _, b := range [][]byte{nil, b[:143], append(b, 0)} {
		if got, ok := cut.Texel(b, 0, 0); got != (api.Colour{}) || ok {
			t.Errorf("Texel of %d bytes: %v, %v", len(b), got, ok)
		}
	}
}

func TestAll(t *testing.T) { // P15.2
	for d := range 4 {
		m := pyramid(t, d, true)
		key := 0
		for p, b := range cut.All(m) {
			if page.Key(d, p) != key || !bytes.Equal(b, bytesOf(m, p)) {
				t.Fatalf("%v at %d", p, key)
			}
			key++
		}
		if key != page.Count(d) {
			t.Errorf("All of depth %d: %d", d, key)
		}
		key = 0
		for range cut.All(m) {
			key++
			break
		}
		if key != 1 {
			t.Errorf("All doesn't end early: %d", key)
		}
	}
	for range cut.All(nil) {
		t.Error("All of nil")
	}
}

func TestChanged(t *testing.T) { // P15.2
	for _, wrap := range []bool{false, true} {
		for at := 0; at < 256; at += 5 {
			a := pyramid(t, 2, wrap)
			b, e := a.With(at%16, at/16, 1, 1, []api.Colour{{1, 2, 3, 4}})
			if e != api.OK {
				t.Fatal(e)
			}
			got := cut.Changed(a, b)
			k := 0
			for p := range page.All(2) {
				if bytes.Equal(bytesOf(a, p), bytesOf(b, p)) {
					continue
				}
				if k >= len(got) || got[k].Page != p || !bytes.Equal(got[k].Data, bytesOf(b, p)) {
					t.Fatalf("texel %d: page %v is not told", at, p)
				}
				k++
			}
			if k != len(got) || k == 0 {
				t.Errorf("texel %d: %d pages; want %d", at, len(got), k)
			}
		}
	}
}

func TestChangedOfOthers(t *testing.T) { // P15.2
	one, two := pyramid(t, 1, false), pyramid(t, 2, false)
	for name, a := range map[string]*mips.Pyramid{"nil": nil, "a deeper one": two} {
		got := cut.Changed(a, one)
		if len(got) != 5 {
			t.Fatalf("of %s: %d", name, len(got))
		}
		for key, it := range got {
			if page.Key(1, it.Page) != key || !bytes.Equal(it.Data, bytesOf(one, it.Page)) {
				t.Errorf("of %s: %v at %d", name, it.Page, key)
			}
		}
	}
	plain := func(d int) *mips.Pyramid {
		m, _ := mips.Build(api.Texture{D: d, Texels: make([]api.Colour, 16<<(2*d))})
		return m
	}
	if got := cut.Changed(plain(2), plain(1)); len(got) != 5 {
		t.Errorf("of one colour, another depth: %d", len(got))
	}
	if got := cut.Changed(one, two); len(got) != 21 {
		t.Errorf("of a lesser one: %d", len(got))
	}
	if got := cut.Changed(one, nil); len(got) != 0 {
		t.Errorf("nil: %d", len(got))
	}
	if got := cut.Changed(one, pyramid(t, 1, false)); len(got) != 0 {
		t.Errorf("of one that is the same: %d", len(got))
	}
	if got := cut.Changed(one, pyramid(t, 1, true)); len(got) != 5 {
		t.Errorf("of one that wraps: %d", len(got))
	}
}

func TestBordersAreRims(t *testing.T) { // P15.3
	m := pyramid(t, 3, false)
	for p, b := range cut.All(m) {
		right, e := cut.Page(m, api.Page{L: p.L, X: p.X + 1, Y: p.Y})
		if e != api.OK {
			continue
		}
		for y := range 4 {
			border, _ := cut.Texel(b, 4, y)
			rim, _ := cut.Texel(right, 0, y)
			otherBorder, _ := cut.Texel(right, -1, y)
			otherRim, _ := cut.Texel(b, 3, y)
			if border != rim || otherBorder != otherRim {
				t.Fatalf("%v and its neighbour", p)
			}
		}
	}
}

func TestNewMemory(t *testing.T) { // P15.3
	m := pyramid(t, 0, false)
	b, _ := cut.Page(m, api.Page{})
	clear(b)
	for _, b := range cut.All(m) {
		clear(b)
	}
	clear(cut.Changed(nil, m)[0].Data)
	if b, _ := cut.Page(m, api.Page{}); !bytes.Equal(b, bytesOf(m, api.Page{})) {
		t.Error("a Page shares memory")
	}
}
