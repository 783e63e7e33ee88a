package clip_test

import (
	"math"
	"slices"
	"testing"

	"wainscot/api"
	"wainscot/clip"
)

const one = 65536

// numbers tells pseudo-random numbers, the same ones each time.
type numbers uint64

func (x *numbers) within(n int) int {
	*x ^= *x << 13
	*x ^= *x >> 7
	*x ^= *x << 17
	return int(uint64(*x)>>1%uint64(2*n+1)) - n
}

func (x *numbers) vertex(most int) api.Vertex {
	return api.Vertex{
		P: api.Vec{x.within(most), x.within(most), x.within(most), x.within(most) + most/3},
		U: x.within(1 << 27), V: x.within(1 << 27),
	}
}

// inside is the seven planes in a row.
func inside(v api.Vec) [7]int {
	return [7]int{v[3] - 256, v[3] + v[0], v[3] - v[0], v[3] + v[1], v[3] - v[1], v[3] + v[2], v[3] - v[2]}
}

// down is n over d (above 0), downward.
func down(n, d int) int {
	q := n / d
	if n%d < 0 {
		q--
	}
	return q
}

// cut is the document's words.
func cut(a, b api.Vertex, plane int) api.Vertex {
	d, e := inside(a.P)[plane], inside(b.P)[plane]
	t := 0
	if d > e {
		t = min(max(down(2*one*d+d-e, 2*(d-e)), 0), one)
	}
	way := func(a, b int) int { return a + down(t*(b-a)+one/2, one) }
	c := api.Vertex{U: way(a.U, b.U), V: way(a.V, b.V)}
	for i := range c.P {
		c.P[i] = way(a.P[i], b.P[i])
	}
	return c
}

// polygon is the document's words, each plane done whatever it does.
func polygon(l []api.Vertex) []api.Vertex {
	if len(l) < 3 {
		return nil
	}
	for plane := range 7 {
		var next []api.Vertex
		for i := range l {
			a, b := l[i], l[(i+1)%len(l)]
			d, e := inside(a.P)[plane], inside(b.P)[plane]
			if d >= 0 {
				next = append(next, a)
			}
			if d >= 0 && e < 0 {
				next = append(next, cut(a, b, plane))
			}
			if d < 0 && e >= 0 {
				next = append(next, cut(b, a, plane))
			}
		}
		l = next
	}
	if len(l) < 3 {
		return nil
	}
	return l
}

func TestInside(t *testing.T) { // P24.1
	x := numbers(8)
	for range 300 {
		v := x.vertex(1 << 29).P
		for plane, want := range inside(v) {
			if got := clip.Inside(v, plane); got != want {
				t.Fatalf("Inside(%v, %d): %d; want %d", v, plane, got, want)
			}
		}
		for _, plane := range []int{-1, 7, 8, math.MinInt, math.MaxInt} {
			if got := clip.Inside(v, plane); got != 0 {
				t.Fatalf("Inside(%v, %d): %d", v, plane, got)
			}
		}
	}
}

func TestCut(t *testing.T) { // P24.1
	x := numbers(15)
	for _, most := range []int{4, 300, one, 1 << 22, 1 << 29} {
		for range 400 {
			a, b := x.vertex(most), x.vertex(most)
			for plane := range 7 {
				if got, want := clip.Cut(a, b, plane), cut(a, b, plane); got != want {
					t.Fatalf("Cut(%v, %v, %d): %v; want %v", a, b, plane, got, want)
				}
			}
			for _, plane := range []int{-1, 7, math.MinInt} {
				if got := clip.Cut(a, b, plane); got != a {
					t.Fatalf("Cut(%v, %v, %d): %v", a, b, plane, got)
				}
			}
		}
	}
}

func TestCutOfKnown(t *testing.T) { // P24.1
	a := api.Vertex{P: api.Vec{0, 0, 0, one}, U: 0, V: 100}
	b := api.Vertex{P: api.Vec{2 * one, 4, -4, one}, U: 7, V: -100}
	if got := clip.Cut(a, b, 2); got != (api.Vertex{P: api.Vec{one, 2, -2, one}, U: 4, V: 0}) { // 3.5 is rounded upward
		t.Errorf("half of the way: %v", got)
	}
	if got := clip.Cut(b, a, 2); got != b { // from outside to inside: t is held to 0
		t.Errorf("the other way: %v", got)
	}
	if got := clip.Cut(a, a, 2); got != a {
		t.Errorf("no way: %v", got)
	}
	inner := api.Vertex{P: api.Vec{one / 2, 0, 0, one}, U: 9}
	if got := clip.Cut(a, inner, 2); got != inner { // both are inside: t is held to 65536
		t.Errorf("a way that doesn't leave: %v", got)
	}
}

func TestPolygon(t *testing.T) { // P24.2
	x := numbers(23)
	sizes := map[int]int{}
	for _, most := range []int{600, one, 1 << 22, 1 << 29} {
		for round := range 800 {
			var l []api.Vertex
			for range round % 6 {
				l = append(l, x.vertex(most))
			}
			got, want := clip.Polygon(l), polygon(l)
			if !slices.Equal(got, want) {
				t.Fatalf("Polygon(%v): %v; want %v", l, got, want)
			}
			sizes[len(got)]++
		}
	}
	if sizes[0] == 0 || sizes[3] == 0 || sizes[4] == 0 || sizes[5] == 0 || sizes[1]+sizes[2] > 0 {
		t.Errorf("the test saw %v", sizes)
	}
}

func TestPolygonAtItsPlanes(t *testing.T) { // P24.2, P24.3
	rim := []api.Vertex{{P: api.Vec{-one, -one, -one, one}, U: 1}, {P: api.Vec{one, -one, one, one}, U: 2}, {P: api.Vec{one, one, one, one}, V: 3}}
	if got := clip.Polygon(rim); !slices.Equal(got, rim) {
		t.Errorf("at the rim: %v", got)
	}
	near := []api.Vertex{{P: api.Vec{0, 0, 0, 256}}, {P: api.Vec{1, 0, 0, 256}}, {P: api.Vec{0, 1, 0, 256}}}
	if got := clip.Polygon(near); !slices.Equal(got, near) {
		t.Errorf("at the near plane: %v", got)
	}
	near[0].P[3], near[1].P[3], near[2].P[3] = 255, 255, 255
	if got := clip.Polygon(near); len(got) != 0 {
		t.Errorf("ahead of the near plane: %v", got)
	}
	corner := []api.Vertex{{P: api.Vec{0, 0, 0, one}}, {P: api.Vec{2 * one, 0, 0, one}}, {P: api.Vec{0, one, 0, one}}}
	if got := clip.Polygon(corner); len(got) != 4 || got[0] != corner[0] || got[3] != corner[2] {
		t.Errorf("one corner out: %v", got)
	}
	for n := range 3 {
		if got := clip.Polygon(rim[:n]); len(got) != 0 {
			t.Errorf("of %d corners: %v", n, got)
		}
	}
}

func TestFarNumbersEnd(t *testing.T) { // P24.2
	far := []int{math.MinInt, math.MaxInt, math.MinInt + 1, 1 << 40, -1 << 62, 0}
	var l []api.Vertex
	for i := range 60 {
		at := func(k int) int { return far[(i*k+k)%len(far)] }
		l = append(l, api.Vertex{P: api.Vec{at(1), at(5), at(7), at(11)}, U: at(13), V: at(17)})
	}
	clip.Polygon(l)
	for plane := -1; plane < 8; plane++ {
		clip.Cut(l[plane+3], l[plane+9], plane)
	}
}

func TestNewMemory(t *testing.T) { // P24.3
	l := []api.Vertex{{P: api.Vec{0, 0, 0, one}}, {P: api.Vec{one, 0, 0, one}}, {P: api.Vec{0, one, 0, one}}, {U: 5}}
	before := slices.Clone(l)
	got := clip.Polygon(l[:3])
	_ = append(got, api.Vertex{V: 9})
	got[0].U = 7
	if !slices.Equal(l, before) {
		t.Errorf("Polygon shares memory: %v", l)
	}
	l[1].P[0] = 5 * one
	before = slices.Clone(l)
	clip.Polygon(l[:3])
	if !slices.Equal(l, before) {
		t.Errorf("what is handed in is changed: %v", l)
	}
}
