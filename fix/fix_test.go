package fix_test

import (
	"math"
	"math/big"
	"testing"

	"wainscot/api"
	"wainscot/fix"
)

// edges are the numbers at which something turns.
func edges() []int {
	l := []int{0, 1, 2, 3, 5, 32767, 32768, 32769, 65535, 65536, 65537, 98304, 1 << 30, 1<<31 - 1, 1 << 31, 1<<31 + 1, math.MaxInt}
	for _, n := range l[1:] {
		l = append(l, -n)
	}
	l = append(l, math.MinInt)
	x := uint64(88172645463325252)
	for range 60 {
		x ^= x << 13
		x ^= x >> 7
		x ^= x << 17
		l = append(l, int(x>>32)-1<<31, int(x>>48)-1<<15)
	}
	return l
}

// nearest is n over d with a half upward, by numbers of any size.
func nearest(n, d *big.Int) *big.Int {
	two := big.NewInt(2)
	up := new(big.Int).Add(new(big.Int).Mul(n, two), d)
	down := new(big.Int).Mul(d, two)
	if down.Sign() < 0 {
		up.Neg(up)
		down.Neg(down)
	}
	return new(big.Int).Div(up, down) // Div is downward where the divisor is above 0
}

func fits(a *big.Int) bool {
	return new(big.Int).Abs(a).Cmp(big.NewInt(1<<31)) <= 0
}

func check(t *testing.T, what string, a, b, got int, e api.Errno, want *big.Int, wantE api.Errno) {
	t.Helper()
	if wantE != api.OK {
		want = new(big.Int)
	}
	if e != wantE || big.NewInt(int64(got)).Cmp(want) != 0 {
		t.Errorf("%s(%d, %d): %d, %d; want %v, %d", what, a, b, got, e, want, wantE)
	}
}

// over is ErrOver, unless all fit.
func over(l ...*big.Int) api.Errno {
	for _, a := range l {
		if !fits(a) {
			return api.ErrOver
		}
	}
	return api.OK
}

func TestOk(t *testing.T) { // P1.1
	for _, a := range edges() {
		if got, want := fix.Ok(a), fits(big.NewInt(int64(a))); got != want {
			t.Errorf("Ok(%d): %v", a, got)
		}
	}
}

func TestAddMulDiv(t *testing.T) { // P1.1, P1.2
	one := big.NewInt(65536)
	for _, a := range edges() {
		for _, b := range edges() {
			x, y := big.NewInt(int64(a)), big.NewInt(int64(b))
			sum := new(big.Int).Add(x, y)
			got, e := fix.Add(a, b)
			check(t, "Add", a, b, got, e, sum, over(x, y, sum))
			product := nearest(new(big.Int).Mul(x, y), one)
			got, e = fix.Mul(a, b)
			check(t, "Mul", a, b, got, e, product, over(x, y, product))
			got, e = fix.Div(a, b)
			if b == 0 {
				check(t, "Div", a, b, got, e, nil, api.ErrArg)
				continue
			}
			part := nearest(new(big.Int).Mul(x, one), y)
			check(t, "Div", a, b, got, e, part, over(x, y, part))
		}
	}
}

func TestExample(t *testing.T) { // P1.1
	if got, e := fix.Mul(98304, 98304); got != 147456 || e != api.OK {
		t.Errorf("1.5 times 1.5: %d, %d", got, e)
	}
}

func TestHalvesGoUpward(t *testing.T) { // P1.1, P1.2, P1.3
	for _, c := range [][3]int{{7, 2, 4}, {-7, 2, -3}, {-5, 2, -2}, {5, 2, 3}, {-1, 2, 0}, {1, 2, 1}, {-4, 3, -1}, {-5, 3, -2}} {
		if got, e := fix.Round(c[0], c[1]); got != c[2] || e != api.OK {
			t.Errorf("Round(%d, %d): %d, %d", c[0], c[1], got, e)
		}
	}
	if got, _ := fix.Mul(-1, 32768); got != 0 {
		t.Errorf("Mul of minus a half: %d", got)
	}
	if got, _ := fix.Div(-1, 131072); got != 0 {
		t.Errorf("Div of minus a half: %d", got)
	}
	if got, _ := fix.Lerp(0, -1, 32768); got != 0 {
		t.Errorf("Lerp of minus a half: %d", got)
	}
}

func TestRound(t *testing.T) { // P1.2
	tops := append(edges(), 1<<61, 1<<61+1, -1<<61, -1<<61-1, 1<<39, -1<<39, 1<<39-1)
	bottoms := append(edges(), 1<<40, 1<<40+1, 1<<40-1)
	for _, n := range tops {
		for _, d := range bottoms {
			got, e := fix.Round(n, d)
			switch {
			case d < 1 || d > 1<<40:
				check(t, "Round", n, d, got, e, nil, api.ErrArg)
			case n < -1<<61 || n > 1<<61:
				check(t, "Round", n, d, got, e, nil, api.ErrOver)
			default:
				check(t, "Round", n, d, got, e, nearest(big.NewInt(int64(n)), big.NewInt(int64(d))), api.OK)
			}
		}
	}
}

func TestLog2(t *testing.T) { // P1.3
	for k := range 63 {
		n := 1 << k
		if fix.Log2(n) != k || k > 1 && (fix.Log2(n-1) != k-1 || fix.Log2(n+1) != k) {
			t.Errorf("Log2 around 2^%d", k)
		}
	}
	for _, n := range []int{0, -1, -8, math.MinInt} {
		if fix.Log2(n) != -1 {
			t.Errorf("Log2(%d): %d", n, fix.Log2(n))
		}
	}
	if fix.Log2(math.MaxInt) != 62 {
		t.Error("Log2 of the greatest")
	}
}

func TestLerp(t *testing.T) { // P1.3
	one := big.NewInt(65536)
	for _, a := range edges() {
		for _, b := range edges() {
			for _, at := range []int{-1, 0, 1, 2, 16384, 32767, 32768, 32769, 65535, 65536, 65537, math.MinInt} {
				got, e := fix.Lerp(a, b, at)
				x, y := big.NewInt(int64(a)), big.NewInt(int64(b))
				way := new(big.Int).Mul(big.NewInt(int64(at)), new(big.Int).Sub(y, x))
				want := new(big.Int).Add(x, nearest(way, one))
				wantE := over(x, y)
				if wantE == api.OK && (at < 0 || at > 65536) {
					wantE = api.ErrArg
				}
				check(t, "Lerp", a, b, got, e, want, wantE)
			}
		}
	}
}

func TestLerpStaysBetween(t *testing.T) { // P1.4
	for _, c := range [][2]int{{0, 7}, {7, 0}, {-9, -2}, {-1 << 31, 1 << 31}, {1 << 31, -1 << 31}, {5, 5}, {-3, 4}} {
		for at := 0; at <= 65536; at += 257 {
			got, e := fix.Lerp(c[0], c[1], at)
			if e != api.OK || got < min(c[0], c[1]) || got > max(c[0], c[1]) {
				t.Fatalf("Lerp(%d, %d, %d): %d, %d", c[0], c[1], at, got, e)
			}
		}
		if got, _ := fix.Lerp(c[0], c[1], 0); got != c[0] {
			t.Errorf("Lerp at 0: %d", got)
		}
		if got, _ := fix.Lerp(c[0], c[1], 65536); got != c[1] {
			t.Errorf("Lerp at 65536: %d", got)
		}
	}
}
