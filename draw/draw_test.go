package draw_test

import (
	"math"
	"slices"
	"testing"

	"wainscot/api"
	"wainscot/cut"
	"wainscot/draw"
	"wainscot/edge"
	"wainscot/level"
	"wainscot/mips"
	"wainscot/page"
	"wainscot/persp"
	"wainscot/pool"
	"wainscot/sample"
	"wainscot/screen"
	"wainscot/shade"
	"wainscot/table"
	"wainscot/vec"
)

const one = 65536

// numbers tells pseudo-random numbers, the same ones each time.
type numbers uint64

func (x *numbers) below(n int) int {
	*x ^= *x << 13
	*x ^= *x >> 7
	*x ^= *x << 17
	return int(uint64(*x) >> 1 % uint64(n))
}

func (x *numbers) within(n int) int { return x.below(2*n+1) - n }

func (x *numbers) colour() api.Colour {
	return api.Colour{byte(x.below(256)), byte(x.below(256)), byte(x.below(256)), byte(x.below(256))}
}

// source has each page of a texture there at so many chances of ten.
func (x *numbers) source(t *testing.T, d int, wrap, tri bool, chance int) sample.Source {
	t.Helper()
	tex := api.Texture{D: d, Wrap: wrap}
	for range 16 << (2 * d) {
		tex.Texels = append(tex.Texels, x.colour())
	}
	m, _ := mips.Build(tex)
	root, _ := cut.Page(m, page.Root(d))
	p, e := pool.New(128, d, root)
	tab, e2 := table.New(d)
	if e != api.OK || e2 != api.OK {
		t.Fatal(e, e2)
	}
	for g, b := range cut.All(m) {
		if x.below(10) < chance {
			p.Put(g, b)
			tab.Set(g, true)
		}
	}
	return sample.Source{Depth: d, Wrap: wrap, Tri: tri, Pool: p, Table: tab}
}

func (x *numbers) vertex(far int) api.Vertex {
	return api.Vertex{P: api.Vec{x.within(far), x.within(far), x.within(far), one}, U: x.within(60 * one), V: x.within(60 * one)}
}

func (x *numbers) triangles(n, far int) []api.Tri {
	var l []api.Tri
	for range n {
		l = append(l, api.Tri{A: x.vertex(far), B: x.vertex(far), C: x.vertex(far), Shader: 1 + x.below(4), Tint: x.colour()})
	}
	return l
}

// corner is one on the screen, by sixteenths of it to the right and upward, and of the depth.
func corner(x, y, z int) api.Vertex {
	return api.Vertex{P: api.Vec{x*one/8 - one, y*one/8 - one, z*one/8 - one, one}, U: x * one, V: (16 - y) * one}
}

// square is two triangles over all of the screen.
func square(z, shader int, tint api.Colour) []api.Tri {
	a, b, c, d := corner(0, 16, z), corner(16, 16, z), corner(16, 0, z), corner(0, 0, z)
	return []api.Tri{{A: a, B: b, C: c, Shader: shader, Tint: tint}, {A: a, B: c, C: d, Shader: shader, Tint: tint}}
}

func render(t *testing.T, s sample.Source, w, h int, back api.Colour, m api.Mat, l []api.Tri) draw.Frame {
	t.Helper()
	f, e := draw.Render(s, w, h, back, m, l)
	if e != api.OK {
		t.Fatalf("Render: %d", e)
	}
	return f
}

func same(a, b draw.Frame) bool {
	return a.W == b.W && a.H == b.H && a.Full == b.Full && a.Less == b.Less && slices.Equal(a.Image, b.Image) && slices.Equal(a.Depth, b.Depth) && slices.Equal(a.Wants, b.Wants) && slices.Equal(a.Used, b.Used)
}

// plain is the document's words, by the layers below, pixel by pixel.
func plain(s sample.Source, w, h int, back api.Colour, m api.Mat, l []api.Tri) draw.Frame {
	f := draw.Frame{W: w, H: h, Image: slices.Repeat([]api.Colour{back}, w*h), Depth: slices.Repeat([]int{65536}, w*h)}
	wants, used := map[api.Page]int{}, map[api.Page]bool{}
	for _, tri := range l {
		places, _ := screen.Place(m, tri, w, h)
		for _, spots := range places {
			turned, ok := edge.Turned(spots)
			for i := range w * h {
				px, py := i%w, i/w
				if _, covered := edge.Covers(turned, px, py); !ok || !covered {
					continue
				}
				z, u, v := persp.At(turned, px, py)
				if z >= f.Depth[i] {
					continue
				}
				var got sample.Got
				if shade.Asks(tri.Shader) {
					ux, vx, uy, vy := persp.Slopes(turned, px, py)
					got = sample.Fetch(s, u, v, level.Of(s.Depth, ux, vx, uy, vy))
					if got.Full {
						f.Full++
					} else {
						f.Less++
					}
				}
				for _, p := range got.Wants {
					wants[p]++
				}
				for _, p := range got.Used {
					used[p] = true
				}
				f.Depth[i], f.Image[i] = z, shade.Pixel(tri.Shader, tri.Tint, got)
			}
		}
	}
	for p := range page.All(s.Depth) {
		if wants[p] > 0 {
			f.Wants = append(f.Wants, api.Want{Page: p, N: wants[p]})
		}
		if used[p] {
			f.Used = append(f.Used, p)
		}
	}
	return f
}

func TestRender(t *testing.T) { // P29.1, P29.2
	x := numbers(2024)
	full, less, many := 0, 0, 0
	for round := range 60 {
		s := x.source(t, round%4, round%3 == 0, round%2 == 0, round%11)
		w, h := 1+x.below(32), 1+x.below(32)
		m := vec.One()
		for i := range m {
			m[i] += x.within(one * (round % 3) / 2)
		}
		back, l := x.colour(), x.triangles(round%9, one*(1+round%3))
		got := render(t, s, w, h, back, m, l)
		if want := plain(s, w, h, back, m, l); !same(got, want) {
			t.Fatalf("round %d: %v; want %v", round, got, want)
		}
		full, less, many = full+got.Full, less+got.Less, max(many, len(got.Wants))
	}
	if full == 0 || less == 0 || many < 5 {
		t.Errorf("the test saw %d full, %d less, %d wanted at once", full, less, many)
	}
}

func TestNoTriangles(t *testing.T) { // P29.1
	x := numbers(1)
	s := x.source(t, 1, false, false, 10)
	f := render(t, s, 5, 3, api.Colour{1, 2, 3, 4}, vec.One(), nil)
	want := draw.Frame{W: 5, H: 3, Image: slices.Repeat([]api.Colour{{1, 2, 3, 4}}, 15), Depth: slices.Repeat([]int{65536}, 15)}
	if !same(f, want) {
		t.Errorf("%v", f)
	}
}

func TestASquareShowsTheTexture(t *testing.T) { // P29.1, P29.2
	x := numbers(4)
	s := x.source(t, 2, false, false, 10)
	f := render(t, s, 16, 16, api.Colour{}, vec.One(), square(8, api.Tex, api.Colour{}))
	for i := range 256 {
		got := sample.Fetch(s, (i%16)*one+one/2, (i/16)*one+one/2, level.Choice{})
		if f.Image[i] != got.Colour || f.Depth[i] != 32767 {
			t.Fatalf("pixel %d: %v, %d; want %v", i, f.Image[i], f.Depth[i], got.Colour)
		}
	}
	if f.Full != 256 || f.Less != 0 || len(f.Wants) != 16 || len(f.Used) != 16 {
		t.Errorf("%d full, %d less, %v, %v", f.Full, f.Less, f.Wants, f.Used)
	}
	for i, w := range f.Wants {
		if want := (api.Want{Page: api.Page{X: i % 4, Y: i / 4}, N: 16}); w != want || f.Used[i] != want.Page {
			t.Errorf("Wants %d: %v; want %v", i, w, want)
		}
	}
}

func TestWantsAndUsedAreNotTheSame(t *testing.T) { // P29.2
	x := numbers(4)
	s := x.source(t, 2, false, false, 0)
	f := render(t, s, 16, 16, api.Colour{}, vec.One(), square(8, api.Debug, api.Colour{7, 7, 7, 7}))
	if f.Full != 0 || f.Less != 256 || len(f.Wants) != 16 || !slices.Equal(f.Used, []api.Page{{L: 2}}) {
		t.Errorf("of the root alone: %d full, %d less, %v, %v", f.Full, f.Less, f.Wants, f.Used)
	}
	if !slices.Equal(f.Image, slices.Repeat([]api.Colour{{7, 7, 7, 7}}, 256)) {
		t.Errorf("Debug shows %v", f.Image)
	}
	f = render(t, s, 16, 16, api.Colour{}, vec.One(), square(8, api.Flat, api.Colour{9, 9, 9, 9}))
	if f.Full != 0 || f.Less != 0 || len(f.Wants) != 0 || len(f.Used) != 0 || f.Image[77] != (api.Colour{9, 9, 9, 9}) {
		t.Errorf("Flat asks for something: %v", f)
	}
}

func TestDrawnOverCounts(t *testing.T) { // P29.2
	x := numbers(4)
	s := x.source(t, 2, false, false, 10)
	behind, ahead := square(9, api.Tex, api.Colour{}), square(7, api.Tex, api.Colour{})
	f := render(t, s, 16, 16, api.Colour{}, vec.One(), append(slices.Clone(behind), ahead...))
	if f.Full != 512 || f.Wants[3].N != 32 {
		t.Errorf("drawn over: %d full, %v", f.Full, f.Wants)
	}
	f = render(t, s, 16, 16, api.Colour{}, vec.One(), append(slices.Clone(ahead), behind...))
	if f.Full != 256 || f.Wants[3].N != 16 {
		t.Errorf("hidden: %d full, %v", f.Full, f.Wants)
	}
}

func TestWhatIsBehindIsNotSeen(t *testing.T) { // P29.3
	x := numbers(8)
	s := x.source(t, 0, false, false, 10)
	red, blue := api.Colour{255, 0, 0, 255}, api.Colour{0, 0, 255, 255}
	ahead, behind := square(4, api.Flat, red), square(12, api.Flat, blue)
	for _, l := range [][]api.Tri{append(slices.Clone(ahead), behind...), append(slices.Clone(behind), ahead...)} {
		f := render(t, s, 9, 9, api.Colour{}, vec.One(), l)
		if !slices.Equal(f.Image, slices.Repeat([]api.Colour{red}, 81)) {
			t.Errorf("%v", f.Image)
		}
	}
	again := square(4, api.Flat, blue)
	if f := render(t, s, 9, 9, api.Colour{}, vec.One(), append(slices.Clone(ahead), again...)); f.Image[40] != red {
		t.Errorf("where Z is one: %v", f.Image[40])
	}
	if f := render(t, s, 9, 9, api.Colour{}, vec.One(), append(slices.Clone(again), ahead...)); f.Image[40] != blue {
		t.Errorf("where Z is one, the other way round: %v", f.Image[40])
	}
	last := square(16, api.Flat, red)
	if f := render(t, s, 9, 9, api.Colour{}, vec.One(), last); f.Image[40] != red || f.Depth[40] != 65534 {
		t.Errorf("at the far end: %v, %d", f.Image[40], f.Depth[40])
	}
}

func TestMay(t *testing.T) { // P29.1
	good := square(8, api.Tex, api.Colour{})[0]
	if e := draw.May(nil); e != api.OK {
		t.Errorf("none: %d", e)
	}
	if e := draw.May(slices.Repeat([]api.Tri{good}, 64)); e != api.OK {
		t.Errorf("64: %d", e)
	}
	wrong := func(set func(*api.Tri)) api.Tri {
		tri := good
		set(&tri)
		return tri
	}
	over := []api.Tri{
		wrong(func(t *api.Tri) { t.A.P[0] = 1<<22 + 1 }), wrong(func(t *api.Tri) { t.B.P[1] = -1<<22 - 1 }), wrong(func(t *api.Tri) { t.C.P[2] = math.MaxInt }),
		wrong(func(t *api.Tri) { t.A.P[3] = one + 1 }), wrong(func(t *api.Tri) { t.B.P[3] = 0 }), wrong(func(t *api.Tri) { t.C.U = 1<<26 + 1 }), wrong(func(t *api.Tri) { t.A.V = math.MinInt }),
	}
	for i, tri := range over {
		if e := draw.May([]api.Tri{good, tri}); e != api.ErrOver {
			t.Errorf("beyond a limit %d: %d", i, e)
		}
	}
	for _, shader := range []int{0, 5, -1, math.MinInt, math.MaxInt} {
		bad := wrong(func(t *api.Tri) { t.Shader = shader })
		for _, l := range [][]api.Tri{{bad}, {good, bad}, {over[0], bad}, {bad, over[0]}} {
			if e := draw.May(l); e != api.ErrArg {
				t.Errorf("shader %d: %d", shader, e)
			}
		}
	}
	if e := draw.May(slices.Repeat([]api.Tri{over[0]}, 65)); e != api.ErrArg {
		t.Errorf("65: %d", e)
	}
}

func TestRenderRefuses(t *testing.T) { // P29.1
	x := numbers(3)
	s := x.source(t, 1, false, false, 10)
	wrong := vec.One()
	wrong[5] = -1<<20 - 1
	good := square(8, api.Tex, api.Colour{})
	over := square(8, api.Tex, api.Colour{})
	over[1].C.P[3] = 5
	empty := sample.Source{Depth: 1}
	for what, c := range map[string]struct {
		s    sample.Source
		w, h int
		m    api.Mat
		l    []api.Tri
		want api.Errno
	}{
		"no width":                 {s, 0, 5, vec.One(), good, api.ErrArg},
		"no height":                {s, 5, 0, vec.One(), good, api.ErrArg},
		"too wide":                 {s, 33, 5, vec.One(), over, api.ErrArg},
		"too high":                 {s, 5, 33, vec.One(), good, api.ErrArg},
		"far too wide":             {s, math.MaxInt, math.MinInt, vec.One(), good, api.ErrArg},
		"a wrong matrix":           {s, 5, 5, wrong, over, api.ErrArg},
		"a wrong matrix, no l":     {s, 5, 5, wrong, nil, api.ErrArg},
		"a corner too far":         {s, 5, 5, vec.One(), over, api.ErrOver},
		"that without a Pool":      {empty, 5, 5, vec.One(), over, api.ErrOver},
		"no Pool and no Table":     {empty, 5, 5, vec.One(), good, api.ErrArg},
		"no Pool":                  {sample.Source{Depth: 1, Table: s.Table}, 5, 5, vec.One(), nil, api.ErrArg},
		"no Table":                 {sample.Source{Depth: 1, Pool: s.Pool}, 5, 5, vec.One(), nil, api.ErrArg},
		"65 triangles, one is bad": {s, 5, 5, vec.One(), slices.Repeat(over, 33), api.ErrArg},
	} {
		if f, e := draw.Render(c.s, c.w, c.h, api.Colour{}, c.m, c.l); e != c.want || !same(f, draw.Frame{}) {
			t.Errorf("%s: %d", what, e)
		}
	}
}

func TestUnlikeDepths(t *testing.T) { // P29.1
	x := numbers(31)
	for _, chance := range []int{0, 10} {
		s := x.source(t, 2, true, true, chance)
		for _, d := range []int{0, 1, 3, -1, 4, math.MaxInt} {
			s.Depth = d
			if f := render(t, s, 16, 16, api.Colour{}, vec.One(), square(8, api.Tex, api.Colour{})); f.Full+f.Less != 256 {
				t.Errorf("depth %d: %d full, %d less", d, f.Full, f.Less)
			}
		}
	}
}

func TestNewMemory(t *testing.T) { // P29.3
	x := numbers(5)
	s := x.source(t, 1, false, false, 5)
	l := square(8, api.Tex, api.Colour{})
	before := slices.Clone(l)
	a := render(t, s, 8, 8, api.Colour{}, vec.One(), l)
	b := render(t, s, 8, 8, api.Colour{}, vec.One(), l)
	clear(a.Image)
	clear(a.Depth)
	clear(a.Wants)
	clear(a.Used)
	if !slices.Equal(l, before) || !same(b, render(t, s, 8, 8, api.Colour{}, vec.One(), l)) || same(a, b) {
		t.Error("something is shared, or changed")
	}
}
