package screen_test

import (
	"math"
	"math/big"
	"slices"
	"testing"

	"wainscot/api"
	"wainscot/clip"
	"wainscot/screen"
	"wainscot/vec"
)

const one = 65536

// numbers tells pseudo-random numbers, the same ones each time.
type numbers uint64

func (x *numbers) within(n int) int {
	*x ^= *x << 13
	*x ^= *x >> 7
	*x ^= *x << 17
	return int(uint64(*x)>>1%uint64(2*n+1)) - n
}

// round is n over d (above 0), a half upward, by numbers of any size.
func round(n *big.Int, d int) int {
	up := new(big.Int).Add(new(big.Int).Lsh(n, 1), big.NewInt(int64(d)))
	return int(new(big.Int).Div(up, big.NewInt(int64(2*d))).Int64())
}

// spot is the document's words.
func spot(v api.Vertex, w, h int) api.Spot {
	near := max(v.P[3], 256)
	along := func(n, by int) int {
		n = near + min(max(n, -near), near)
		return round(new(big.Int).Mul(big.NewInt(int64(n)), big.NewInt(int64(by))), near)
	}
	return api.Spot{X: along(v.P[0], w*128), Y: along(-v.P[1], h*128), Z: along(v.P[2], 32767), W: near, U: v.U, V: v.V}
}

func TestSpot(t *testing.T) { // P25.1, P25.3
	x := numbers(3)
	for _, most := range []int{3, 255, 256, 257, 1000, one, 1 << 22, 1 << 29} {
		for round := range 300 {
			w, h := round%32+1, round*7%32+1
			v := api.Vertex{P: api.Vec{x.within(most), x.within(most), x.within(most), x.within(most)}, U: x.within(1 << 27), V: x.within(1 << 27)}
			got, ok := screen.Spot(v, w, h)
			if want := spot(v, w, h); got != want || !ok {
				t.Fatalf("Spot(%v, %d, %d): %v, %v; want %v", v, w, h, got, ok, want)
			}
			if got.X < 0 || got.X > w*256 || got.Y < 0 || got.Y > h*256 || got.Z < 0 || got.Z > 65535 || got.W < 256 {
				t.Fatalf("not on the screen: %v", got)
			}
		}
	}
}

func TestSpotOfKnown(t *testing.T) { // P25.1
	for _, c := range []struct {
		p    api.Vec
		want api.Spot
	}{
		{api.Vec{0, 0, 0, one}, api.Spot{X: 1024, Y: 512, Z: 32767, W: one}},
		{api.Vec{one, one, one, one}, api.Spot{X: 2048, Y: 0, Z: 65534, W: one}},
		{api.Vec{-one, -one, -one, one}, api.Spot{X: 0, Y: 1024, Z: 0, W: one}},
		{api.Vec{9 * one, -9 * one, 9 * one, one}, api.Spot{X: 2048, Y: 1024, Z: 65534, W: one}},
		{api.Vec{0, 0, 0, 0}, api.Spot{X: 1024, Y: 512, Z: 32767, W: 256}},
		{api.Vec{128, 128, -128, -5}, api.Spot{X: 1536, Y: 256, Z: 16384, W: 256}},
	} {
		if got, ok := screen.Spot(api.Vertex{P: c.p}, 8, 4); got != c.want || !ok {
			t.Errorf("Spot of %v: %v, %v; want %v", c.p, got, ok, c.want)
		}
	}
}

func TestSpotRefuses(t *testing.T) { // P25.1
	good := api.Vertex{P: api.Vec{0, 0, 0, one}}
	for _, c := range [][2]int{{0, 1}, {1, 0}, {33, 1}, {1, 33}, {-1, 5}, {5, -1}, {math.MaxInt, 1}, {1, math.MinInt}} {
		if got, ok := screen.Spot(good, c[0], c[1]); got != (api.Spot{}) || ok {
			t.Errorf("Spot on %v: %v", c, got)
		}
	}
	for i := range 6 {
		limit := 1 << 29
		if i > 3 {
			limit = 1 << 27
		}
		for n, want := range map[int]bool{limit: true, -limit: true, limit + 1: false, -limit - 1: false, math.MinInt: false, math.MaxInt: false} {
			v := good
			*[]*int{&v.P[0], &v.P[1], &v.P[2], &v.P[3], &v.U, &v.V}[i] = n
			if got, ok := screen.Spot(v, 32, 32); ok != want || !want && got != (api.Spot{}) {
				t.Errorf("Spot of %v: %v, %v", v, got, ok)
			}
		}
	}
}

// triangle is one of random corners.
func (x *numbers) triangle(most int) api.Tri {
	corner := func() api.Vertex {
		return api.Vertex{P: api.Vec{x.within(most), x.within(most), x.within(most), one}, U: x.within(1 << 26), V: x.within(1 << 26)}
	}
	return api.Tri{A: corner(), B: corner(), C: corner()}
}

func TestPlace(t *testing.T) { // P25.2, P25.3
	x := numbers(11)
	counts := map[int]int{}
	for _, most := range []int{one, 2 * one, 1 << 22} {
		for round := range 500 {
			var m api.Mat
			for i := range m {
				m[i] = x.within(one * (1 + round%16))
			}
			if round%3 == 0 {
				m = vec.One()
			}
			tri, w, h := x.triangle(most), round%32+1, round*5%32+1
			var l []api.Vertex
			for _, v := range []api.Vertex{tri.A, tri.B, tri.C} {
				p, e := vec.Apply(m, v.P)
				if e != api.OK {
					t.Fatal(e)
				}
				v.P = p
				l = append(l, v)
			}
			l = clip.Polygon(l)
			var want [][3]api.Spot
			for i := 1; i < len(l)-1; i++ {
				want = append(want, [3]api.Spot{spot(l[0], w, h), spot(l[i], w, h), spot(l[i+1], w, h)})
			}
			got, e := screen.Place(m, tri, w, h)
			if e != api.OK || !slices.Equal(got, want) {
				t.Fatalf("Place(%v, %v, %d, %d): %v, %d; want %v", m, tri, w, h, got, e, want)
			}
			counts[len(got)]++
		}
	}
	if counts[0] == 0 || counts[1] == 0 || counts[2] == 0 || counts[3] == 0 {
		t.Errorf("the test saw %v", counts)
	}
}

func TestPlaceRefuses(t *testing.T) { // P25.2
	good := api.Vertex{P: api.Vec{0, 0, 0, one}}
	wrong := vec.One()
	wrong[7] = 1<<20 + 1
	over := api.Tri{A: good, B: good}
	for _, c := range [][2]int{{0, 1}, {1, 0}, {33, 1}, {1, 33}, {-1, 5}, {math.MaxInt, 1}, {1, math.MinInt}} {
		for _, tri := range []api.Tri{{A: good, B: good, C: good}, over} {
			if got, e := screen.Place(vec.One(), tri, c[0], c[1]); len(got) != 0 || e != api.ErrArg {
				t.Errorf("Place on %v: %d", c, e)
			}
		}
	}
	for _, tri := range []api.Tri{{A: good, B: good, C: good}, over} {
		if got, e := screen.Place(wrong, tri, 5, 5); len(got) != 0 || e != api.ErrArg {
			t.Errorf("Place by a wrong matrix: %d", e)
		}
	}
	for corner := range 3 {
		for i := range 6 {
			limit := 1 << 22
			if i > 3 {
				limit = 1 << 26
			}
			cases := map[int]bool{limit: true, -limit: true, limit + 1: false, -limit - 1: false, math.MinInt: false, math.MaxInt: false}
			if i == 3 {
				cases = map[int]bool{one: true, one - 1: false, one + 1: false, 0: false, -one: false, math.MaxInt: false}
			}
			for n, want := range cases {
				v := good
				*[]*int{&v.P[0], &v.P[1], &v.P[2], &v.P[3], &v.U, &v.V}[i] = n
				tri := api.Tri{A: good, B: good, C: good}
				*[]*api.Vertex{&tri.A, &tri.B, &tri.C}[corner] = v
				got, e := screen.Place(vec.One(), tri, 32, 32)
				if want && e != api.OK || !want && (e != api.ErrOver || len(got) != 0) {
					t.Errorf("Place of a corner %v: %d", v, e)
				}
			}
		}
	}
}
