package persp_test

import (
	"math"
	"math/big"
	"testing"

	"wainscot/api"
	"wainscot/edge"
	"wainscot/persp"
)

const one = 65536

// numbers tells pseudo-random numbers, the same ones each time.
type numbers uint64

func (x *numbers) below(n int) int {
	*x ^= *x << 13
	*x ^= *x >> 7
	*x ^= *x << 17
	return int(uint64(*x) >> 1 % uint64(n))
}

// triangle is one that is turned, with W of so many bits.
func (x *numbers) triangle(most, bits int) [3]api.Spot {
	for {
		var t [3]api.Spot
		for i := range t {
			t[i] = api.Spot{X: x.below(most + 1), Y: x.below(most + 1), Z: x.below(65536), W: 256 + x.below(1<<bits-255), U: x.below(1<<28+1) - 1<<27, V: x.below(1<<28+1) - 1<<27}
		}
		if turned, ok := edge.Turned(t); ok {
			return turned
		}
	}
}

func num(n int) *big.Int { return big.NewInt(int64(n)) }

// down is n over d (above 0), downward.
func down(n, d *big.Int) *big.Int {
	q, m := new(big.Int).QuoRem(n, d, new(big.Int))
	if m.Sign() < 0 {
		q.Sub(q, num(1))
	}
	return q
}

// nearest is n over d (above 0), a half upward.
func nearest(n, d *big.Int) *big.Int {
	return down(new(big.Int).Add(new(big.Int).Lsh(n, 1), d), new(big.Int).Lsh(d, 1))
}

func sides(t [3]api.Spot, x, y int) [3]int {
	return [3]int{edge.Side(t[1], t[2], x, y), edge.Side(t[2], t[0], x, y), edge.Side(t[0], t[1], x, y)}
}

// weights is the document's words, with numbers of any size.
func weights(t [3]api.Spot, x, y int) ([3]int, bool) {
	var n [3]*big.Int
	s := new(big.Int)
	for i, e := range sides(t, x, y) {
		n[i] = new(big.Int).Mul(num(e), nearest(num(1<<38), num(t[i].W)))
		s.Add(s, n[i])
	}
	if s.Sign() < 1 {
		return [3]int{}, false
	}
	k := uint(max(0, s.BitLen()-1-41))
	s.Rsh(s, k)
	most := new(big.Int).Mul(s, num(16))
	var w [3]int
	for i := range 2 {
		n[i] = down(n[i], new(big.Int).Lsh(num(1), k))
		if n[i].Cmp(most) > 0 {
			n[i] = most
		}
		if least := new(big.Int).Neg(most); n[i].Cmp(least) < 0 {
			n[i] = least
		}
		w[i] = int(down(new(big.Int).Mul(n[i], num(one)), s).Int64())
	}
	w[2] = one - w[0] - w[1]
	return w, true
}

// at is u and v of a point, by its weights.
func at(t [3]api.Spot, x, y int) (u, v int, ok bool) {
	w, ok := weights(t, x, y)
	if !ok {
		return 0, 0, false
	}
	su, sv := num(32768), num(32768)
	for i, s := range t {
		su.Add(su, new(big.Int).Mul(num(w[i]), num(s.U)))
		sv.Add(sv, new(big.Int).Mul(num(w[i]), num(s.V)))
	}
	return int(down(su, num(one)).Int64()), int(down(sv, num(one)).Int64()), true
}

// slopes is the document's words.
func slopes(t [3]api.Spot, px, py int) [4]int {
	x, y := 256*px+128, 256*py+128
	u, v, ok := at(t, x, y)
	way := func(dx, dy int) (int, int) {
		if bu, bv, bok := at(t, x+dx, y+dy); ok && bok {
			return bu - u, bv - v
		}
		if au, av, aok := at(t, x-dx, y-dy); ok && aok {
			return u - au, v - av
		}
		return 0, 0
	}
	ux, vx := way(256, 0)
	uy, vy := way(0, 256)
	return [4]int{ux, vx, uy, vy}
}

func TestWeights(t *testing.T) { // P27.1, P27.3
	x := numbers(17)
	seen, shifted := map[bool]int{}, 0
	for _, bits := range []int{8, 9, 12, 17, 24, 29} {
		for _, most := range []int{3, 300, 2048, 1 << 14} {
			for range 120 {
				tri := x.triangle(most, bits)
				px, py := x.below(1<<15+1025)-1024, x.below(1<<15+1025)-1024
				if x.below(2) == 0 {
					px, py = x.below(most+1), x.below(most+1)
				}
				want, wantOK := weights(tri, px, py)
				got, ok := persp.Weights(tri, px, py)
				if got != want || ok != wantOK {
					t.Fatalf("Weights(%v, %d, %d): %v, %v; want %v, %v", tri, px, py, got, ok, want, wantOK)
				}
				if ok && got[0]+got[1]+got[2] != one {
					t.Fatalf("Weights(%v, %d, %d) together: %v", tri, px, py, got)
				}
				seen[ok]++
				if bits == 8 && most == 1<<14 {
					shifted++
				}
			}
		}
	}
	if seen[false] == 0 || seen[true] == 0 || shifted == 0 {
		t.Errorf("the test saw %v, %d shifted", seen, shifted)
	}
}

// TestWeightsMidway has sums of which each bit counts that is shifted away.
func TestWeightsMidway(t *testing.T) { // P27.1
	x := numbers(71)
	kinds := map[int]int{}
	for range 2000 {
		tri := x.triangle(1<<13, 10)
		for i := range tri {
			tri[i].X, tri[i].Y = 2*tri[i].X, 2*tri[i].Y
		}
		tri[1].W = tri[0].W
		px, py := (tri[0].X+tri[1].X)/2, (tri[0].Y+tri[1].Y)/2
		want, wantOK := weights(tri, px, py)
		got, ok := persp.Weights(tri, px, py)
		if got != want || ok != wantOK || !ok {
			t.Fatalf("Weights(%v, %d, %d): %v, %v; want %v, %v", tri, px, py, got, ok, want, wantOK)
		}
		kinds[got[0]]++
	}
	if kinds[32767] == 0 || kinds[32768] == 0 {
		t.Errorf("the test saw %v", kinds)
	}
}

func TestWeightsOfTheLeastSum(t *testing.T) { // P27.1
	tri := [3]api.Spot{{X: 2, Y: 1, W: 496629624}, {X: 4, Y: 1, W: 367444486}, {X: 3, Y: 2, W: 338293355}}
	if got, ok := persp.Weights(tri, 18, -12); !ok || got != [3]int{-16 * one, 16 * one, one} { // a sum of 1
		t.Errorf("%v, %v", got, ok)
	}
}

func TestAt(t *testing.T) { // P27.2
	x := numbers(18)
	for _, bits := range []int{8, 9, 12, 17, 24, 29} {
		for _, most := range []int{300, 2048, 1 << 13} {
			for range 150 {
				tri := x.triangle(most, bits)
				px, py := x.below(36)-2, x.below(36)-2
				sum := new(big.Int)
				for i, e := range sides(tri, 256*px+128, 256*py+128) {
					sum.Add(sum, new(big.Int).Mul(num(e), num(tri[i].Z)))
				}
				z := min(max(int(nearest(sum, num(edge.Area(tri))).Int64()), 0), 65535)
				u, v, _ := at(tri, 256*px+128, 256*py+128)
				if gz, gu, gv := persp.At(tri, px, py); gz != z || gu != u || gv != v {
					t.Fatalf("At(%v, %d, %d): %d, %d, %d; want %d, %d, %d", tri, px, py, gz, gu, gv, z, u, v)
				}
			}
		}
	}
}

func TestSlopes(t *testing.T) { // P27.2
	x := numbers(19)
	kinds := map[[3]bool]int{}
	for _, bits := range []int{8, 9, 12, 17, 24, 29} {
		for _, most := range []int{300, 2048, 1 << 13} {
			for range 150 {
				tri := x.triangle(most, bits)
				px, py := x.below(36)-2, x.below(36)-2
				want := slopes(tri, px, py)
				ux, vx, uy, vy := persp.Slopes(tri, px, py)
				if got := [4]int{ux, vx, uy, vy}; got != want {
					t.Fatalf("Slopes(%v, %d, %d): %v; want %v", tri, px, py, got, want)
				}
				_, left := weights(tri, 256*px-128, 256*py+128)
				_, here := weights(tri, 256*px+128, 256*py+128)
				_, right := weights(tri, 256*px+384, 256*py+128)
				kinds[[3]bool{left, here, right}]++
			}
		}
	}
	for _, k := range [][3]bool{{true, true, true}, {true, true, false}, {false, true, true}, {true, false, false}, {false, false, false}} {
		if kinds[k] == 0 {
			t.Errorf("the test saw no %v: %v", k, kinds)
		}
	}
}

func TestOneW(t *testing.T) { // P27.3
	tri := [3]api.Spot{{X: 0, Y: 0, Z: 0, W: 777, U: 0, V: 0}, {X: 4096, Y: 0, Z: 4096, W: 777, U: 4096 * 16, V: 0}, {X: 0, Y: 4096, Z: 0, W: 777, U: 0, V: 4096 * 16}}
	for px := range 8 {
		for py := range 8 {
			z, u, v := persp.At(tri, px, py)
			if z != 256*px+128 || u != 16*(256*px+128) || v != 16*(256*py+128) {
				t.Errorf("At(%d, %d): %d, %d, %d", px, py, z, u, v)
			}
			ux, vx, uy, vy := persp.Slopes(tri, px, py)
			if ux != 4096 || vx != 0 || uy != 0 || vy != 4096 {
				t.Errorf("Slopes(%d, %d): %d, %d, %d, %d", px, py, ux, vx, uy, vy)
			}
		}
	}
}

func TestExample(t *testing.T) { // P27.2
	tri := [3]api.Spot{{X: 128, Y: 128, Z: 5, W: 256, U: 1000, V: -2000}, {X: 1152, Y: 128, Z: 65535, W: one, U: -3000, V: 77}, {X: 128, Y: 1152, Z: 0, W: 1 << 20, U: 1 << 27, V: -1 << 27}}
	for i, at := range [][2]int{{0, 0}, {4, 0}, {0, 4}} {
		z, u, v := persp.At(tri, at[0], at[1])
		if z != tri[i].Z || u != tri[i].U || v != tri[i].V {
			t.Errorf("at corner %d: %d, %d, %d; want %v", i, z, u, v, tri[i])
		}
	}
}

func TestNearerCountsMore(t *testing.T) { // P27.1
	tri := [3]api.Spot{{X: 0, Y: 0, W: one}, {X: 2048, Y: 0, W: 3 * one}, {X: 0, Y: 2048, W: one}}
	w, ok := persp.Weights(tri, 1024, 0)
	if !ok || w[0] < 49151 || w[0] > 49153 || w[1] < 16383 || w[1] > 16385 {
		t.Errorf("midway between W of 1 and of 3: %v, %v", w, ok)
	}
}

func TestFarNumbersEnd(t *testing.T) { // P27.1, P27.2
	far := []int{math.MinInt, math.MaxInt, 0, -1, 1 << 40, 256}
	for i := range 216 {
		at := func(k int) int { return far[i/k%6] }
		tri := [3]api.Spot{{X: at(1), Y: at(6), Z: at(36), W: at(1), U: at(6), V: at(36)}, {X: at(36), Y: at(1), W: at(6)}, {X: at(6), Y: 256, W: at(36), Z: at(1)}}
		persp.Weights(tri, at(1), at(36))
		persp.At(tri, at(6), at(1))
		persp.Slopes(tri, at(36), at(6))
	}
}
