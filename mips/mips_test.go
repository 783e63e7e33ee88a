package mips_test

import (
	"math"
	"slices"
	"testing"

	"wainscot/api"
	"wainscot/mips"
)

// texture is one of many colours, the same ones each time.
func texture(d int, wrap bool) api.Texture {
	side := 4 << d
	t := api.Texture{D: d, Wrap: wrap}
	x := uint64(d+1) * 2862933555777941757
	for range side * side {
		x ^= x << 13
		x ^= x >> 7
		x ^= x << 17
		t.Texels = append(t.Texels, api.Colour{byte(x >> 20), byte(x >> 30), byte(x >> 40), byte(x >> 50)})
	}
	return t
}

func build(t *testing.T, tex api.Texture) *mips.Pyramid {
	t.Helper()
	m, e := mips.Build(tex)
	if e != api.OK {
		t.Fatalf("Build: %d", e)
	}
	return m
}

func same(a, b api.Texture) bool {
	return a.D == b.D && a.Wrap == b.Wrap && slices.Equal(a.Texels, b.Texels)
}

func TestMay(t *testing.T) { // P14.1
	for d := range 4 {
		n := (4 << d) * (4 << d)
		for count, want := range map[int]bool{n: true, n - 1: false, n + 1: false, 0: false, 4 * n: false} {
			tex := api.Texture{D: d, Texels: make([]api.Colour, count)}
			m, e := mips.Build(tex)
			if mips.May(tex) != want || (m != nil) != want || (e == api.OK) != want || !want && e != api.ErrArg {
				t.Errorf("depth %d of %d texels: %v, %d", d, count, mips.May(tex), e)
			}
		}
	}
	for _, d := range []int{-1, 4, 5, 62, 64, math.MinInt, math.MaxInt} {
		for _, n := range []int{0, 4, 16, 4096, 16384} {
			tex := api.Texture{D: d, Texels: make([]api.Colour, n)}
			if m, e := mips.Build(tex); mips.May(tex) || m != nil || e != api.ErrArg {
				t.Errorf("depth %d of %d texels: %d", d, n, e)
			}
		}
	}
}

// texel is one of a level, worked out from the texture each time.
func texel(tex api.Texture, l, x, y int) api.Colour {
	if l == 0 {
		return tex.Texels[(4<<tex.D)*y+x]
	}
	var c api.Colour
	for i := range c {
		sum := 2
		for k := range 4 {
			sum += int(texel(tex, l-1, 2*x+k%2, 2*y+k/2)[i])
		}
		c[i] = byte(sum / 4)
	}
	return c
}

// address is a place held, or taken modulo, by counting.
func address(x, size int, wrap bool) int {
	for wrap && x < 0 {
		x += size
	}
	for wrap && x >= size {
		x -= size
	}
	return min(max(x, 0), size-1)
}

func TestLevels(t *testing.T) { // P14.1
	for d := range 4 {
		for _, wrap := range []bool{false, true} {
			tex := texture(d, wrap)
			m := build(t, tex)
			for l := range d + 1 {
				size := 4 << (d - l)
				if m.Size(l) != size {
					t.Errorf("Size(%d) of depth %d: %d", l, d, m.Size(l))
				}
				for y := -size - 2; y < 2*size+2; y++ {
					for x := -size - 2; x < 2*size+2; x++ {
						want := texel(tex, l, address(x, size, wrap), address(y, size, wrap))
						if got := m.At(l, x, y); got != want {
							t.Fatalf("At(%d, %d, %d) of depth %d, %v: %v; want %v", l, x, y, d, wrap, got, want)
						}
					}
				}
			}
			for _, l := range []int{-1, d + 1, math.MinInt, math.MaxInt} {
				if m.Size(l) != 0 || m.At(l, 0, 0) != (api.Colour{}) {
					t.Errorf("level %d of depth %d", l, d)
				}
			}
		}
	}
}

func TestFarAddresses(t *testing.T) { // P14.1
	tex := texture(2, false)
	m := build(t, tex)
	if m.At(0, math.MinInt, math.MinInt) != tex.Texels[0] || m.At(0, math.MaxInt, math.MaxInt) != tex.Texels[255] || m.At(0, math.MaxInt, 0) != tex.Texels[15] {
		t.Error("far places are not held")
	}
	tex.Wrap = true
	m = build(t, tex)
	if m.At(0, math.MinInt, math.MaxInt) != tex.Texels[15*16] || m.At(0, math.MaxInt, math.MinInt) != tex.Texels[15] {
		t.Error("far places are not taken modulo")
	}
}

func TestTexture(t *testing.T) { // P14.2
	for d := range 4 {
		for _, wrap := range []bool{false, true} {
			tex := texture(d, wrap)
			m := build(t, tex)
			if m.Depth() != d || m.Wrap() != wrap || !same(m.Texture(), tex) {
				t.Errorf("depth %d, %v: %d, %v", d, wrap, m.Depth(), m.Wrap())
			}
		}
	}
}

func TestWith(t *testing.T) { // P14.2
	for _, c := range [][4]int{{0, 0, 1, 1}, {7, 7, 1, 1}, {0, 0, 8, 8}, {2, 3, 4, 2}, {5, 0, 3, 8}, {0, 6, 8, 2}, {7, 0, 1, 8}} {
		x, y, w, h := c[0], c[1], c[2], c[3]
		tex := texture(1, true)
		m := build(t, tex)
		l := texture(2, false).Texels[:w*h]
		got, e := m.With(x, y, w, h, l)
		if e != api.OK {
			t.Fatalf("With(%v): %d", c, e)
		}
		want := texture(1, true)
		for i, col := range l {
			want.Texels[8*(y+i/w)+x+i%w] = col
		}
		if !same(got.Texture(), want) || !same(m.Texture(), tex) {
			t.Errorf("With(%v): %v", c, got.Texture())
		}
		for i := range 16 {
			if got.At(1, i%4, i/4) != texel(want, 1, i%4, i/4) || m.At(1, i%4, i/4) != texel(tex, 1, i%4, i/4) {
				t.Errorf("With(%v): level 1 at %d", c, i)
			}
		}
	}
}

func TestWithRefuses(t *testing.T) { // P14.2
	m := build(t, texture(1, true))
	big := make([]api.Colour, 100)
	for _, c := range [][5]int{
		{0, 0, 0, 0, 0}, {0, 0, 0, 1, 0}, {0, 0, 1, 0, 0}, {0, 0, -1, -1, 1}, {-1, 0, 1, 1, 1}, {0, -1, 1, 1, 1},
		{8, 0, 1, 1, 1}, {0, 8, 1, 1, 1}, {7, 0, 2, 1, 2}, {0, 7, 1, 2, 2}, {0, 0, 9, 1, 9}, {0, 0, 1, 9, 9},
		{0, 0, 2, 2, 3}, {0, 0, 2, 2, 5}, {0, 0, 1, 1, 0}, {math.MaxInt, 0, 1, 1, 1}, {math.MinInt, 0, 1, 1, 1},
		{1, 0, math.MaxInt, 1, 1}, {0, 1, 1, math.MaxInt, 1}, {0, 0, math.MinInt, 1, 1}, {0, math.MaxInt, 1, math.MaxInt, 1},
		{0, 0, 1 << 32, 1 << 32, 0},
	} {
		if got, e := m.With(c[0], c[1], c[2], c[3], big[:c[4]]); got != nil || e != api.ErrArg {
			t.Errorf("With(%v): %d", c, e)
		}
	}
}

func TestNil(t *testing.T) { // P14.2
	var m *mips.Pyramid
	w, e := m.With(0, 0, 1, 1, make([]api.Colour, 1))
	if m.At(0, 0, 0) != (api.Colour{}) || m.Size(0) != 0 || m.Depth() != 0 || m.Wrap() || !same(m.Texture(), api.Texture{}) || w != nil || e != api.ErrArg {
		t.Error("a nil Pyramid")
	}
}

func TestOneColour(t *testing.T) { // P14.3
	c := api.Colour{1, 99, 254, 255}
	m := build(t, api.Texture{D: 3, Texels: slices.Repeat([]api.Colour{c}, 1024)})
	for l := range 4 {
		for i := range m.Size(l) * m.Size(l) {
			if got := m.At(l, i%m.Size(l), i/m.Size(l)); got != c {
				t.Fatalf("level %d: %v", l, got)
			}
		}
	}
}

func TestNewMemory(t *testing.T) { // P14.3
	tex := texture(0, false)
	m := build(t, tex)
	clear(tex.Texels)
	want := texture(0, false)
	if !same(m.Texture(), want) {
		t.Error("Build keeps what is handed in")
	}
	clear(m.Texture().Texels)
	if !same(m.Texture(), want) {
		t.Error("Texture shares memory")
	}
	l := []api.Colour{{1}, {2}, {3}, {4}}
	got, _ := m.With(0, 0, 2, 2, l[:4])
	clear(l)
	if got.At(0, 1, 1) != (api.Colour{4}) {
		t.Error("With keeps what is handed in")
	}
}
