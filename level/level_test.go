package level_test

import (
	"math"
	"math/big"
	"slices"
	"testing"

	"wainscot/level"
)

const one = 65536

// choice is the document's words, with numbers of any size.
func choice(depth int, slopes [4]int) level.Choice {
	if depth < 0 || depth > 3 {
		depth = 0
	}
	r := big.NewInt(0)
	for _, s := range slopes {
		if a := new(big.Int).Abs(big.NewInt(int64(s))); a.Cmp(r) > 0 {
			r = a
		}
	}
	if r.Cmp(big.NewInt(one)) <= 0 {
		return level.Choice{}
	}
	l := 0
	for r.Cmp(new(big.Int).Lsh(big.NewInt(one), uint(l+1))) >= 0 {
		l++
	}
	if l >= depth {
		return level.Choice{L: depth}
	}
	base := new(big.Int).Lsh(big.NewInt(one), uint(l))
	t := new(big.Int).Mul(new(big.Int).Sub(r, base), big.NewInt(256))
	return level.Choice{L: l, T: int(t.Div(t, base).Int64())}
}

func TestOf(t *testing.T) { // P22.1
	var slopes []int
	for _, s := range []int{0, 1, 5, one / 2, one - 1, one, one + 1, one + 255, one + 256, one + 257, 3*one/2 - 1, 3 * one / 2, 2*one - 1, 2 * one, 2*one + 1, 2*one + 511, 2*one + 512, 3 * one, 4*one - 1, 4 * one, 5 * one, 6*one + 77, 8*one - 1, 8 * one, 100 * one, 1 << 40, 1<<40 + 1, math.MaxInt} {
		slopes = append(slopes, s, -s)
	}
	slopes = append(slopes, math.MinInt)
	for _, depth := range []int{0, 1, 2, 3, -1, 4, 60, math.MinInt, math.MaxInt} {
		for _, s := range slopes {
			for at := range 4 {
				for _, rest := range []int{0, one / 4, -one} {
					all := [4]int{rest, -rest, rest, rest}
					all[at] = s
					want := choice(depth, all)
					if got := level.Of(depth, all[0], all[1], all[2], all[3]); got != want {
						t.Fatalf("Of(%d, %v): %v; want %v", depth, all, got, want)
					}
				}
			}
		}
	}
}

func TestExample(t *testing.T) { // P22.1
	if got := level.Of(3, 3*one, 0, 0, 0); got != (level.Choice{L: 1, T: 128}) {
		t.Errorf("three texels a pixel: %v", got)
	}
}

func TestTwo(t *testing.T) { // P22.2
	for _, c := range []struct {
		c     level.Choice
		depth int
		tri   bool
		want  []int
	}{
		{level.Choice{L: 1, T: 128}, 3, true, []int{1, 2}}, {level.Choice{L: 1, T: 128}, 3, false, []int{1}},
		{level.Choice{L: 1, T: 0}, 3, true, []int{1}}, {level.Choice{L: 2, T: 1}, 3, true, []int{2, 3}},
		{level.Choice{L: 3, T: 1}, 3, true, []int{3}}, {level.Choice{L: 0, T: 255}, 1, true, []int{0, 1}},
		{level.Choice{L: 0, T: 255}, 0, true, []int{0}}, {level.Choice{L: 7, T: 9}, 3, true, []int{7}},
		{level.Choice{}, 3, true, []int{0}}, {level.Choice{L: math.MaxInt, T: 1}, 3, true, []int{math.MaxInt}},
	} {
		if got := level.Two(c.c, c.depth, c.tri); !slices.Equal(got, c.want) {
			t.Errorf("Two(%v, %d, %v): %v", c.c, c.depth, c.tri, got)
		}
	}
}

func TestGreaterIsCoarser(t *testing.T) { // P22.3
	last := level.Choice{}
	for s := 0; s < 20*one; s += 97 {
		got := level.Of(3, 0, s, -s/2, 0)
		if got.L < last.L || got.L == last.L && got.T < last.T {
			t.Fatalf("of %d: %v behind %v", s, got, last)
		}
		last = got
	}
	if last != (level.Choice{L: 3}) {
		t.Errorf("the coarsest: %v", last)
	}
}
