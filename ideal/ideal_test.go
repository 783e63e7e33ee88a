package ideal_test

import (
	"math"
	"slices"
	"testing"

	"wainscot/api"
	"wainscot/cut"
	"wainscot/draw"
	"wainscot/hue"
	"wainscot/ideal"
	"wainscot/level"
	"wainscot/mips"
	"wainscot/page"
	"wainscot/pool"
	"wainscot/sample"
	"wainscot/table"
	"wainscot/vec"
)

const one = 65536

// numbers tells pseudo-random numbers, the same ones each time.
type numbers uint64

func (x *numbers) below(n int) int {
	*x ^= *x << 13
	*x ^= *x >> 7
	*x ^= *x << 17
	return int(uint64(*x) >> 1 % uint64(n))
}

func (x *numbers) within(n int) int { return x.below(2*n+1) - n }

func (x *numbers) colour() api.Colour {
	return api.Colour{byte(x.below(256)), byte(x.below(256)), byte(x.below(256)), byte(x.below(256))}
}

func (x *numbers) texture(d int, wrap bool) api.Texture {
	t := api.Texture{D: d, Wrap: wrap}
	for range 16 << (2 * d) {
		t.Texels = append(t.Texels, x.colour())
	}
	return t
}

func (x *numbers) vertex(far int) api.Vertex {
	return api.Vertex{P: api.Vec{x.within(far), x.within(far), x.within(far), one}, U: x.within(60 * one), V: x.within(60 * one)}
}

func (x *numbers) triangles(n, far int) []api.Tri {
	var l []api.Tri
	for range n {
		l = append(l, api.Tri{A: x.vertex(far), B: x.vertex(far), C: x.vertex(far), Shader: 1 + x.below(4), Tint: x.colour()})
	}
	return l
}

// source has these pages of a texture there.
func source(t *testing.T, m *mips.Pyramid, tri bool, there []api.Page) sample.Source {
	t.Helper()
	root, _ := cut.Page(m, page.Root(m.Depth()))
	p, e := pool.New(128, m.Depth(), root)
	tab, e2 := table.New(m.Depth())
	if e != api.OK || e2 != api.OK {
		t.Fatal(e, e2)
	}
	for _, g := range there {
		if b, e := cut.Page(m, g); e == api.OK {
			p.Put(g, b)
			tab.Set(g, true)
		}
	}
	return sample.Source{Depth: m.Depth(), Wrap: m.Wrap(), Tri: tri, Pool: p, Table: tab}
}

// square is two triangles over all of the screen, with so many texels of the texture.
func square(texels int, shader int) []api.Tri {
	at := func(i, j int) api.Vertex {
		return api.Vertex{P: api.Vec{2*i*one - one, one - 2*j*one, 0, one}, U: i * one * texels, V: j * one * texels}
	}
	a, b, c, d := at(0, 0), at(1, 0), at(1, 1), at(0, 1)
	return []api.Tri{{A: a, B: b, C: c, Shader: shader}, {A: a, B: c, C: d, Shader: shader}}
}

func same(a, b ideal.Picture) bool {
	return a.Full == b.Full && a.Less == b.Less && slices.Equal(a.Image, b.Image) && slices.Equal(a.Wants, b.Wants)
}

// down is n over d (above 0), downward.
func down(n, d int) int {
	q := n / d
	if n%d < 0 {
		q--
	}
	return q
}

// TestColour works the place out by the document's words.
func TestColour(t *testing.T) { // P33.1
	x := numbers(14)
	for d := range 4 {
		for _, wrap := range []bool{false, true} {
			tex := x.texture(d, wrap)
			m, _ := mips.Build(tex)
			for l := range d + 1 {
				for range 300 {
					u, v := x.within(50*one), x.within(50*one)
					all := one * (4 << d)
					place := func(u int) int {
						if wrap {
							u -= all * down(u, all)
						} else {
							u = min(max(u, 0), all-1)
						}
						return down(u, 1<<l) - 32768
					}
					px, py := down(place(u), one), down(place(v), one)
					fx, fy := (place(u)-one*px)/256, (place(v)-one*py)/256
					want := hue.Lerp(hue.Lerp(m.At(l, px, py), m.At(l, px+1, py), fx), hue.Lerp(m.At(l, px, py+1), m.At(l, px+1, py+1), fx), fy)
					if got := ideal.Colour(m, l, u, v); got != want {
						t.Fatalf("Colour at %d, %d of level %d, depth %d: %v; want %v", u, v, l, d, got, want)
					}
				}
			}
			for _, l := range []int{-1, d + 1, math.MinInt, math.MaxInt} {
				if got := ideal.Colour(m, l, 5*one, 5*one); got != (api.Colour{}) {
					t.Errorf("Colour of level %d: %v", l, got)
				}
			}
		}
	}
	if got := ideal.Colour(nil, 0, 0, 0); got != (api.Colour{}) {
		t.Errorf("Colour of nil: %v", got)
	}
}

func TestColourIsTheTexels(t *testing.T) { // P33.1
	x := numbers(15)
	m, _ := mips.Build(x.texture(1, false))
	for i := range 64 {
		if got := ideal.Colour(m, 0, (i%8)*one+one/2, (i/8)*one+one/2); got != m.At(0, i%8, i/8) {
			t.Errorf("at the middle of texel %d: %v", i, got)
		}
	}
	if got := ideal.Colour(m, 1, 2*one, one); got != hue.Lerp(m.At(1, 0, 0), m.At(1, 1, 0), 128) {
		t.Errorf("between two of level 1: %v", got)
	}
}

// TestImgIsRender holds each picture against that of pages.
func TestImgIsRender(t *testing.T) { // P33.2, P33.3
	x := numbers(16)
	full, less := 0, 0
	for round := range 80 {
		tex := x.texture(round%4, round%3 == 0)
		p, _ := mips.Build(tex)
		var there []api.Page
		for g := range page.All(tex.D) {
			if x.below(10) < round%11 {
				there = append(there, g)
			}
		}
		there = append(there, api.Page{L: 9}, api.Page{X: -1})
		tri, w, h, back := round%2 == 0, 1+x.below(32), 1+x.below(32), x.colour()
		m := vec.One()
		for i := range m {
			m[i] += x.within(one * (round % 3) / 2)
		}
		l := x.triangles(round%9, one*(1+round%3))
		f, e := draw.Render(source(t, p, tri, there), w, h, back, m, l)
		if e != api.OK {
			t.Fatal(e)
		}
		want := ideal.Picture{Image: f.Image, Full: f.Full, Less: f.Less, Wants: f.Wants}
		if got, e := ideal.Img(tex, tri, w, h, back, m, l, there); e != api.OK || !same(got, want) {
			t.Fatalf("round %d: %v, %d; want %v", round, got, e, want)
		}
		full, less = full+f.Full, less+f.Less
		touched := 0
		for _, want := range f.Wants {
			if want.Page.L < tex.D {
				touched++
			}
		}
		if got := ideal.Touches(tex, tri, w, h, m, l); got != touched {
			t.Fatalf("round %d: Touches %d; want %d", round, got, touched)
		}
	}
	if full == 0 || less == 0 {
		t.Errorf("the test saw %d full, %d less", full, less)
	}
}

func TestAllThere(t *testing.T) { // P33.2
	x := numbers(17)
	tex := x.texture(2, false)
	m, _ := mips.Build(tex)
	got, e := ideal.Img(tex, false, 16, 16, api.Colour{}, vec.One(), square(16, api.Tex), ideal.All(2))
	if e != api.OK || got.Less != 0 || got.Full != 256 || !slices.Equal(got.Image, tex.Texels) || len(got.Wants) != 16 {
		t.Errorf("all there: %v, %d", got, e)
	}
	got, e = ideal.Img(tex, false, 16, 16, api.Colour{}, vec.One(), square(16, api.Tex), nil)
	if e != api.OK || got.Less != 256 || got.Full != 0 || len(got.Wants) != 16 {
		t.Errorf("the root alone: %v, %d", got, e)
	}
	for i, c := range got.Image {
		if want := ideal.Colour(m, 2, (i%16)*one+one/2, (i/16)*one+one/2); c != want {
			t.Fatalf("the root alone, pixel %d: %v; want %v", i, c, want)
		}
	}
	got, _ = ideal.Img(tex, false, 16, 16, api.Colour{}, vec.One(), square(16, api.Tex), []api.Page{{L: 1, X: 1, Y: 1}, {X: 3, Y: 3}})
	if got.Full != 16 || got.Image[255] != tex.Texels[255] || got.Image[8*16+8] != ideal.Colour(m, 1, 8*one+one/2, 8*one+one/2) {
		t.Errorf("some there: %d full", got.Full)
	}
}

func TestAll(t *testing.T) { // P33.2
	for d := range 4 {
		if got := ideal.All(d); !slices.Equal(got, slices.Collect(page.All(d))) || len(got) != page.Count(d) {
			t.Errorf("All(%d): %v", d, got)
		}
	}
	for _, d := range []int{-1, 4, math.MinInt, math.MaxInt} {
		if got := ideal.All(d); len(got) != 0 {
			t.Errorf("All(%d): %v", d, got)
		}
	}
}

func TestTouches(t *testing.T) { // P33.2
	x := numbers(18)
	tex := x.texture(2, false)
	for texels, want := range map[int]int{16: 16, 8: 4, 4: 1, 32: 4, 64: 0} {
		if got := ideal.Touches(tex, false, 16, 16, vec.One(), square(texels, api.Debug)); got != want {
			t.Errorf("%d texels: %d; want %d", texels, got, want)
		}
	}
	if got := ideal.Touches(tex, true, 16, 16, vec.One(), square(24, api.Tex)); got != 20 {
		t.Errorf("between two levels: %d", got)
	}
	if got := ideal.Touches(tex, false, 16, 16, vec.One(), square(16, api.Flat)); got != 0 {
		t.Errorf("Flat: %d", got)
	}
	if got := ideal.Touches(tex, false, 33, 16, vec.One(), square(16, api.Tex)); got != 0 {
		t.Errorf("of an error: %d", got)
	}
}

func TestImgRefuses(t *testing.T) { // P33.2
	x := numbers(19)
	tex := x.texture(1, false)
	short := tex
	short.Texels = short.Texels[1:]
	wrong := vec.One()
	wrong[3] = 1<<20 + 1
	good, over, none := square(8, api.Tex), square(8, api.Tex), square(8, 5)
	over[0].C.P[3] = 1
	for what, c := range map[string]struct {
		t    api.Texture
		w, h int
		m    api.Mat
		l    []api.Tri
		want api.Errno
	}{
		"a wrong texture":  {short, 8, 8, vec.One(), over, api.ErrArg},
		"a wrong depth":    {api.Texture{D: 4}, 8, 8, vec.One(), good, api.ErrArg},
		"no width":         {tex, 0, 8, vec.One(), over, api.ErrArg},
		"no height":        {tex, 8, 0, vec.One(), good, api.ErrArg},
		"too wide":         {tex, 33, 8, vec.One(), good, api.ErrArg},
		"too high":         {tex, 8, 33, vec.One(), good, api.ErrArg},
		"a wrong matrix":   {tex, 8, 8, wrong, over, api.ErrArg},
		"a corner too far": {tex, 8, 8, vec.One(), over, api.ErrOver},
		"no shader":        {tex, 8, 8, vec.One(), none, api.ErrArg},
		"65 triangles":     {tex, 8, 8, vec.One(), slices.Repeat(good, 33), api.ErrArg},
	} {
		if got, e := ideal.Img(c.t, false, c.w, c.h, api.Colour{}, c.m, c.l, nil); e != c.want || !same(got, ideal.Picture{}) {
			t.Errorf("%s: %d", what, e)
		}
		if got := ideal.Touches(c.t, false, c.w, c.h, c.m, c.l); got != 0 {
			t.Errorf("%s touches %d", what, got)
		}
	}
}

func TestNearestIsSeen(t *testing.T) { // P33.2
	x := numbers(20)
	tex := x.texture(0, false)
	ahead, behind := square(4, api.Flat), square(4, api.Flat)
	for i := range ahead {
		ahead[i].Tint = api.Colour{1, 1, 1, 1}
		behind[i].Tint = api.Colour{2, 2, 2, 2}
		for _, v := range []*api.Vertex{&behind[i].A, &behind[i].B, &behind[i].C} {
			v.P[2] = one / 2
		}
	}
	for _, l := range [][]api.Tri{append(slices.Clone(ahead), behind...), append(slices.Clone(behind), ahead...)} {
		if got, _ := ideal.Img(tex, false, 4, 4, api.Colour{}, vec.One(), l, nil); got.Image[5] != (api.Colour{1, 1, 1, 1}) {
			t.Errorf("%v", got.Image)
		}
	}
	again := square(4, api.Flat)
	for i := range again {
		again[i].Tint = api.Colour{3, 3, 3, 3}
	}
	if got, _ := ideal.Img(tex, false, 4, 4, api.Colour{}, vec.One(), append(slices.Clone(ahead), again...), nil); got.Image[5] != (api.Colour{1, 1, 1, 1}) {
		t.Errorf("where Z is one: %v", got.Image)
	}
}

func TestTrilinear(t *testing.T) { // P33.2
	x := numbers(21)
	tex := x.texture(2, false)
	m, _ := mips.Build(tex)
	got, _ := ideal.Img(tex, true, 16, 16, api.Colour{}, vec.One(), square(24, api.Tex), ideal.All(2))
	u, v := 3*one*3/2+3*one/4, 5*one*3/2+3*one/4
	choice := level.Of(2, 3*one/2, 0, 0, 3*one/2)
	want := hue.Lerp(ideal.Colour(m, 0, u, v), ideal.Colour(m, 1, u, v), choice.T)
	if got.Image[5*16+3] != want || choice != (level.Choice{T: 128}) {
		t.Errorf("between two levels: %v; want %v", got.Image[5*16+3], want)
	}
}

func TestNewMemory(t *testing.T) { // P33.3
	x := numbers(22)
	tex := x.texture(1, false)
	there, l := ideal.All(1), square(8, api.Tex)
	a, _ := ideal.Img(tex, false, 8, 8, api.Colour{}, vec.One(), l, there)
	clear(a.Image)
	clear(a.Wants)
	clear(ideal.All(1))
	b, _ := ideal.Img(tex, false, 8, 8, api.Colour{}, vec.One(), l, there)
	if !slices.Equal(b.Image, tex.Texels) || !slices.Equal(there, ideal.All(1)) || !slices.Equal(l, square(8, api.Tex)) {
		t.Error("something is shared, or changed")
	}
}
