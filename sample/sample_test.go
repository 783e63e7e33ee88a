package sample_test

import (
	"math"
	"slices"
	"testing"

	"wainscot/api"
	"wainscot/cut"
	"wainscot/hue"
	"wainscot/level"
	"wainscot/mips"
	"wainscot/page"
	"wainscot/pool"
	"wainscot/sample"
	"wainscot/table"
)

const one = 65536

// numbers tells pseudo-random numbers, the same ones each time.
type numbers uint64

func (x *numbers) below(n int) int {
	*x ^= *x << 13
	*x ^= *x >> 7
	*x ^= *x << 17
	return int(uint64(*x) >> 1 % uint64(n))
}

// pyramid is one of many colours.
func pyramid(t *testing.T, d int, wrap bool) *mips.Pyramid {
	t.Helper()
	x := numbers(d + 77)
	tex := api.Texture{D: d, Wrap: wrap}
	for range 16 << (2 * d) {
		tex.Texels = append(tex.Texels, api.Colour{byte(x.below(256)), byte(x.below(256)), byte(x.below(256)), byte(x.below(256))})
	}
	m, e := mips.Build(tex)
	if e != api.OK {
		t.Fatal(e)
	}
	return m
}

// source has these pages of one there.
func source(t *testing.T, m *mips.Pyramid, tri bool, there ...api.Page) sample.Source {
	t.Helper()
	root, _ := cut.Page(m, page.Root(m.Depth()))
	p, e := pool.New(128, m.Depth(), root)
	tab, e2 := table.New(m.Depth())
	if e != api.OK || e2 != api.OK {
		t.Fatal(e, e2)
	}
	for _, g := range there {
		b, _ := cut.Page(m, g)
		p.Put(g, b)
		tab.Set(g, true)
	}
	return sample.Source{Depth: m.Depth(), Wrap: m.Wrap(), Tri: tri, Pool: p, Table: tab}
}

// down is n over d, downward.
func down(n, d int) int {
	q := n / d
	if n%d < 0 {
		q--
	}
	return q
}

// place is that of one way at a level, by the document's words.
func place(depth, l int, wrap bool, u int) int {
	all := one * (4 << depth)
	if wrap {
		u -= all * down(u, all)
	} else {
		u = min(max(u, 0), all-1)
	}
	return down(u, 1<<l) - 32768
}

// address is a texel's number held, or taken modulo.
func address(x, size int, wrap bool) int {
	if wrap {
		return x - size*down(x, size)
	}
	return min(max(x, 0), size-1)
}

// spots are places on one way: borders of all levels, what is around them, and some more.
func spots(depth int) []int {
	var l []int
	for _, texel := range []int{-9, -1, 0, 1, 2, 3, 4, 5, 7, 8, 9, 12, 15, 16, 24, 31, 32, 33, 64} {
		for _, more := range []int{0, 1, -1, 255, 256, 257, one / 2, one/2 - 1, one/2 + 1, one - 1} {
			l = append(l, texel*one+more)
		}
	}
	x := numbers(depth + 5)
	for range 40 {
		l = append(l, x.below(100*one)-50*one)
	}
	return append(l, math.MinInt, math.MaxInt, 1<<26, -1<<26)
}

func TestBase(t *testing.T) { // P23.1
	for depth := range 4 {
		for l := range depth + 1 {
			for _, wrap := range []bool{false, true} {
				for k, u := range spots(depth) {
					v := spots(depth)[(k*7+3)%len(spots(depth))]
					pu, pv := place(depth, l, wrap, u), place(depth, l, wrap, v)
					want := [4]int{down(pu, one), down(pv, one), down(pu-one*down(pu, one), 256), down(pv-one*down(pv, one), 256)}
					x, y, fx, fy := sample.Base(depth, l, wrap, u, v)
					if got := [4]int{x, y, fx, fy}; got != want {
						t.Fatalf("Base(%d, %d, %v, %d, %d): %v; want %v", depth, l, wrap, u, v, got, want)
					}
					size := 4 << (depth - l)
					w := api.Page{L: l, X: address(x, size, wrap) / 4, Y: address(y, size, wrap) / 4}
					if got := sample.Wanted(depth, l, wrap, u, v); got != w || !page.Valid(depth, got) {
						t.Fatalf("Wanted(%d, %d, %v, %d, %d): %v; want %v", depth, l, wrap, u, v, got, w)
					}
				}
			}
		}
	}
}

func TestBaseOfNone(t *testing.T) { // P23.1
	for _, c := range [][2]int{{-1, 0}, {4, 0}, {4, 4}, {2, -1}, {2, 3}, {0, 1}, {math.MinInt, 0}, {math.MaxInt, 0}, {3, math.MaxInt}, {3, math.MinInt}} {
		for _, wrap := range []bool{false, true} {
			x, y, fx, fy := sample.Base(c[0], c[1], wrap, 5*one, 7*one+999)
			w := sample.Wanted(c[0], c[1], wrap, 5*one, 7*one)
			if x != 0 || y != 0 || fx != 0 || fy != 0 || w != (api.Page{}) {
				t.Errorf("of depth %d, level %d: %d, %d, %d, %d, %v", c[0], c[1], x, y, fx, fy, w)
			}
		}
	}
}

func TestExample(t *testing.T) { // P23.1, P23.2
	m := pyramid(t, 1, false)
	s := source(t, m, false, slices.Collect(page.All(1))...)
	if x, _, fx, _ := sample.Base(1, 0, false, 32768, 32768); x != 0 || fx != 0 {
		t.Errorf("Base: %d, %d", x, fx)
	}
	if got := sample.Fetch(s, 32768, 32768, level.Choice{}); got.Colour != m.At(0, 0, 0) || !got.Full {
		t.Errorf("Fetch: %v", got)
	}
}

// colour is a texture's own at a place of a level, no page asked.
func colour(m *mips.Pyramid, l, u, v int) api.Colour {
	pu, pv := place(m.Depth(), l, m.Wrap(), u), place(m.Depth(), l, m.Wrap(), v)
	x, y := down(pu, one), down(pv, one)
	fx, fy := (pu-one*x)/256, (pv-one*y)/256
	upper := hue.Lerp(m.At(l, x, y), m.At(l, x+1, y), fx)
	lower := hue.Lerp(m.At(l, x, y+1), m.At(l, x+1, y+1), fx)
	return hue.Lerp(upper, lower, fy)
}

// best is the finest of some pages in which one is.
func best(there []api.Page, depth int, w api.Page) api.Page {
	for w.L < depth && !slices.Contains(there, w) {
		w = api.Page{L: w.L + 1, X: w.X / 2, Y: w.Y / 2}
	}
	return w
}

func TestFetch(t *testing.T) { // P23.2, P23.3
	x := numbers(4711)
	for depth := range 4 {
		for _, wrap := range []bool{false, true} {
			m := pyramid(t, depth, wrap)
			for round := range 6 {
				var there []api.Page
				for p := range page.All(depth) {
					if x.below(5) < round {
						there = append(there, p)
					}
				}
				for _, tri := range []bool{false, true} {
					s := source(t, m, tri, there...)
					for range 300 {
						u, v := spots(depth)[x.below(len(spots(depth)))], spots(depth)[x.below(len(spots(depth)))]
						c := level.Choice{L: x.below(depth + 1), T: x.below(3) * 100}
						check(t, s, m, there, u, v, c)
					}
				}
			}
		}
	}
}

func check(t *testing.T, s sample.Source, m *mips.Pyramid, there []api.Page, u, v int, c level.Choice) {
	t.Helper()
	got := sample.Fetch(s, u, v, c)
	want := sample.Got{Full: true}
	levels := []int{c.L}
	if s.Tri && c.T != 0 && c.L < s.Depth {
		levels = append(levels, c.L+1)
	}
	var colours []api.Colour
	for _, l := range levels {
		w := sample.Wanted(s.Depth, l, s.Wrap, u, v)
		a := best(there, s.Depth, w)
		want.Wants, want.Used = append(want.Wants, w), append(want.Used, a)
		want.Full = want.Full && a == w
		colours = append(colours, colour(m, a.L, u, v))
	}
	want.Colour = colours[0]
	if len(colours) == 2 {
		want.Colour = hue.Lerp(colours[0], colours[1], c.T)
	}
	if got.Colour != want.Colour || got.Full != want.Full || !slices.Equal(got.Wants, want.Wants) || !slices.Equal(got.Used, want.Used) {
		t.Fatalf("Fetch at %d, %d of depth %d, %v, with %v: %v; want %v", u, v, s.Depth, c, there, got, want)
	}
}

func zero(g sample.Got) bool {
	return g.Colour == api.Colour{} && !g.Full && len(g.Wants) == 0 && len(g.Used) == 0
}

func TestFetchOfNone(t *testing.T) { // P23.2
	m := pyramid(t, 2, true)
	good := source(t, m, true, slices.Collect(page.All(2))...)
	for _, l := range []int{-1, 3, math.MinInt, math.MaxInt} {
		if got := sample.Fetch(good, 0, 0, level.Choice{L: l, T: 5}); !zero(got) {
			t.Errorf("level %d: %v", l, got)
		}
	}
	for _, d := range []int{-1, 4, math.MinInt, math.MaxInt} {
		s := good
		s.Depth = d
		if got := sample.Fetch(s, 0, 0, level.Choice{}); !zero(got) {
			t.Errorf("depth %d: %v", d, got)
		}
	}
	for name, s := range map[string]sample.Source{"Pool": {Depth: 2, Table: good.Table}, "Table": {Depth: 2, Pool: good.Pool}} {
		if got := sample.Fetch(s, 0, 0, level.Choice{}); !zero(got) {
			t.Errorf("without %s: %v", name, got)
		}
	}
	lost := source(t, m, true)
	lost.Table.Set(api.Page{L: 1}, true)
	for _, c := range []level.Choice{{L: 1}, {L: 0, T: 7}, {L: 1, T: 7}} {
		if got := sample.Fetch(lost, 5*one, 5*one, c); !zero(got) {
			t.Errorf("a page that is not in the pool, %v: %v", c, got)
		}
	}
	if got := sample.Fetch(lost, 5*one, 5*one, level.Choice{L: 2, T: 7}); zero(got) || !got.Full {
		t.Errorf("the root: %v", got)
	}
}

func TestUnlikeDepths(t *testing.T) { // P23.2
	m := pyramid(t, 2, true)
	for _, there := range [][]api.Page{nil, slices.Collect(page.All(2))} {
		s := source(t, m, true, there...)
		for depth := range 4 {
			s.Depth = depth
			for _, u := range spots(depth) {
				for l := range depth + 1 {
					sample.Fetch(s, u, -u, level.Choice{L: l, T: 9})
				}
			}
		}
	}
}

func TestNewMemory(t *testing.T) { // P23.3
	s := source(t, pyramid(t, 1, true), false)
	got := sample.Fetch(s, 0, 0, level.Choice{})
	clear(got.Wants)
	if got.Used[0] != (api.Page{L: 1}) || sample.Fetch(s, 0, 0, level.Choice{}).Wants[0] != (api.Page{X: 1, Y: 1}) {
		t.Error("two lists share memory")
	}
}
