package edge_test

import (
	"math"
	"slices"
	"testing"

	"wainscot/api"
	"wainscot/edge"
)

// numbers tells pseudo-random numbers, the same ones each time.
type numbers uint64

func (x *numbers) below(n int) int {
	*x ^= *x << 13
	*x ^= *x >> 7
	*x ^= *x << 17
	return int(uint64(*x) >> 1 % uint64(n))
}

// spot is one at a place; what it has else tells it from others.
func spot(x, y int) api.Spot { return api.Spot{X: x, Y: y, Z: x + 7*y, W: 300 + x, U: y, V: -x} }

// triangle is one at multiples of step.
func (x *numbers) triangle(most, step int) [3]api.Spot {
	var t [3]api.Spot
	for i := range t {
		t[i] = spot(x.below(most/step+1)*step, x.below(most/step+1)*step)
	}
	return t
}

func side(a, b api.Spot, x, y int) int { return (b.X-a.X)*(y-a.Y) - (b.Y-a.Y)*(x-a.X) }

// turned is the document's words.
func turned(t [3]api.Spot) ([3]api.Spot, bool) {
	switch a := side(t[0], t[1], t[2].X, t[2].Y); {
	case a > 0:
		return t, true
	case a < 0:
		return [3]api.Spot{t[0], t[2], t[1]}, true
	}
	return [3]api.Spot{}, false
}

// covers is the document's words, of one that is turned.
func covers(t [3]api.Spot, px, py int) (edge.Hit, bool) {
	if side(t[0], t[1], t[2].X, t[2].Y) <= 0 {
		return edge.Hit{}, false
	}
	x, y := 256*px+128, 256*py+128
	e := [3]int{side(t[1], t[2], x, y), side(t[2], t[0], x, y), side(t[0], t[1], x, y)}
	for i, way := range [3][2]api.Spot{{t[1], t[2]}, {t[2], t[0]}, {t[0], t[1]}} {
		from, to := way[0], way[1]
		upper := from.Y == to.Y && to.X > from.X
		left := to.Y < from.Y
		if e[i] < 0 || e[i] == 0 && !upper && !left {
			return edge.Hit{}, false
		}
	}
	return edge.Hit{X: px, Y: py, E: e}, true
}

func TestSideAndArea(t *testing.T) { // P26.1
	if got := edge.Side(spot(2, 3), spot(12, 3), 5, 7); got != 40 {
		t.Errorf("below a way to the right: %d", got)
	}
	if got := edge.Side(spot(2, 3), spot(2, 13), 5, 7); got != -30 {
		t.Errorf("right of a way down: %d", got)
	}
	x := numbers(6)
	for range 500 {
		tri := x.triangle(1<<14, 1)
		px, py := x.below(1<<15)-1024, x.below(1<<15)-1024
		if edge.Side(tri[0], tri[1], px, py) != side(tri[0], tri[1], px, py) {
			t.Fatalf("Side(%v, %v, %d, %d)", tri[0], tri[1], px, py)
		}
		if edge.Area(tri) != side(tri[0], tri[1], tri[2].X, tri[2].Y) {
			t.Fatalf("Area(%v): %d", tri, edge.Area(tri))
		}
	}
}

func TestTurned(t *testing.T) { // P26.1
	x := numbers(9)
	seen := map[bool]int{}
	for range 2000 {
		tri := x.triangle(16, 4)
		want, wantOK := turned(tri)
		got, ok := edge.Turned(tri)
		if got != want || ok != wantOK {
			t.Fatalf("Turned(%v): %v, %v; want %v", tri, got, ok, want)
		}
		if ok && edge.Area(got) <= 0 {
			t.Fatalf("Turned(%v) has an Area of %d", tri, edge.Area(got))
		}
		seen[ok]++
	}
	if seen[false] == 0 {
		t.Error("the test saw no flat one")
	}
}

func TestTheLeastArea(t *testing.T) { // P26.1, P26.2
	tri := [3]api.Spot{spot(128, 128), spot(129, 128), spot(128, 129)}
	if got, ok := edge.Turned(tri); got != tri || !ok || edge.Area(tri) != 1 {
		t.Errorf("Turned: %v, %v", got, ok)
	}
	if got, ok := edge.Covers(tri, 0, 0); !ok || got != (edge.Hit{E: [3]int{1, 0, 0}}) {
		t.Errorf("Covers: %v, %v", got, ok)
	}
	other := [3]api.Spot{tri[0], tri[2], tri[1]}
	if got, ok := edge.Turned(other); got != tri || !ok {
		t.Errorf("Turned the other way round: %v, %v", got, ok)
	}
	if got, ok := edge.Covers(other, 0, 0); ok || got != (edge.Hit{}) {
		t.Errorf("Covers of one that is not turned: %v, %v", got, ok)
	}
}

func TestCovers(t *testing.T) { // P26.2
	x := numbers(21)
	on := 0
	for _, step := range []int{1, 64, 128, 256} {
		for range 400 {
			tri := x.triangle(1280, step)
			for px := -1; px < 6; px++ {
				for py := -1; py < 6; py++ {
					want, wantOK := covers(tri, px, py)
					got, ok := edge.Covers(tri, px, py)
					if got != want || ok != wantOK {
						t.Fatalf("Covers(%v, %d, %d): %v, %v; want %v, %v", tri, px, py, got, ok, want, wantOK)
					}
					if ok && got.E[0]+got.E[1]+got.E[2] != edge.Area(tri) { // P26.3
						t.Fatalf("the three E of %v together: %v", tri, got.E)
					}
					if ok && (got.E[0] == 0 || got.E[1] == 0 || got.E[2] == 0) {
						on++
					}
				}
			}
		}
	}
	if on == 0 {
		t.Error("the test saw no middle on an edge")
	}
}

func TestCoversEnds(t *testing.T) { // P26.2
	far := []int{math.MinInt, math.MaxInt, 0, 1 << 40}
	for i := range 64 {
		tri := [3]api.Spot{spot(far[i%4], 0), spot(0, far[i/4%4]), spot(far[i/16], 256)}
		edge.Covers(tri, far[i/4%4], far[i/16])
		for range edge.Pixels(tri, 32, 32) {
			continue
		}
	}
}

func TestExample(t *testing.T) { // P26.2, P26.3
	a, b, c, d := spot(0, 0), spot(256, 0), spot(256, 256), spot(0, 256)
	upper := slices.Collect(edge.Pixels([3]api.Spot{a, b, c}, 1, 1))
	lower := slices.Collect(edge.Pixels([3]api.Spot{a, c, d}, 1, 1))
	if len(upper)+len(lower) != 1 {
		t.Errorf("two halves of a square: %v, %v", upper, lower)
	}
	for _, c := range []struct {
		tri  [3]api.Spot
		want bool
	}{ // each has an edge through the middle of the only pixel
		{[3]api.Spot{spot(0, 128), spot(256, 128), spot(128, 512)}, true},   // its upper one
		{[3]api.Spot{spot(128, 0), spot(256, 128), spot(0, 128)}, false},    // its lower one
		{[3]api.Spot{spot(128, 256), spot(128, 0), spot(512, 128)}, true},   // its left one
		{[3]api.Spot{spot(128, 0), spot(128, 256), spot(-512, 128)}, false}, // its right one
	} {
		if _, ok := edge.Covers(c.tri, 0, 0); ok != c.want {
			t.Errorf("Covers(%v): %v", c.tri, ok)
		}
	}
}

func TestPixels(t *testing.T) { // P26.2
	x := numbers(33)
	for _, step := range []int{1, 32, 128, 256} {
		for round := range 100 {
			tri := x.triangle(8192, step)
			w, h := round%32+1, round*11%32+1
			var want []edge.Hit
			if turn, ok := turned(tri); ok {
				for py := range h {
					for px := range w {
						if hit, ok := covers(turn, px, py); ok {
							want = append(want, hit)
						}
					}
				}
			}
			if got := slices.Collect(edge.Pixels(tri, w, h)); !slices.Equal(got, want) {
				t.Fatalf("Pixels(%v, %d, %d): %v; want %v", tri, w, h, got, want)
			}
		}
	}
	all := [3]api.Spot{spot(0, 0), spot(16384, 0), spot(0, 16384)}
	for _, c := range [][2]int{{0, 1}, {1, 0}, {33, 5}, {5, 33}, {-1, 5}, {math.MaxInt, 5}, {5, math.MinInt}} {
		if got := slices.Collect(edge.Pixels(all, c[0], c[1])); len(got) != 0 {
			t.Errorf("Pixels on %v: %d", c, len(got))
		}
	}
	if got := slices.Collect(edge.Pixels(all, 32, 32)); len(got) != 1024 {
		t.Errorf("Pixels of all: %d", len(got))
	}
	n := 0
	for range edge.Pixels(all, 32, 32) {
		n++
		if n == 40 {
			break
		}
	}
	if n != 40 {
		t.Errorf("Pixels doesn't end early: %d", n)
	}
}

// TestNeighbours lays fans around a point: each pixel of the whole is covered once.
func TestNeighbours(t *testing.T) { // P26.3
	x := numbers(55)
	for range 200 {
		step := []int{1, 64, 128}[x.below(3)]
		middle := spot(x.below(2048/step+1)*step, x.below(2048/step+1)*step)
		rim := []api.Spot{spot(0, 0), spot(x.below(2048/step+1)*step, 0), spot(2048, 0), spot(2048, 2048), spot(x.below(2048/step+1)*step, 2048), spot(0, 2048)}
		times := map[[2]int]int{}
		for i := range rim {
			for hit := range edge.Pixels([3]api.Spot{middle, rim[i], rim[(i+1)%len(rim)]}, 8, 8) {
				times[[2]int{hit.X, hit.Y}]++
			}
		}
		for i := range 64 {
			if n := times[[2]int{i % 8, i / 8}]; n != 1 {
				t.Fatalf("around %v pixel %d is covered %d times", middle, i, n)
			}
		}
	}
}
