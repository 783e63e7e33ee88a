package hue_test

import (
	"bytes"
	"math"
	"slices"
	"testing"

	"wainscot/api"
	"wainscot/hue"
)

// four is a colour whose bytes are all different ways into the same rule.
func four(n int) api.Colour { return api.Colour{byte(n), byte(n * 7), byte(n * 31), byte(255 - n)} }

func TestLerp(t *testing.T) { // P3.1
	for x := 0; x < 256; x += 5 {
		for y := 0; y < 256; y += 3 {
			for _, at := range []int{0, 1, 64, 127, 128, 129, 200, 255, 256} {
				a, b := four(x), four(y)
				var want api.Colour
				for i := range want {
					want[i] = byte((int(a[i])*(256-at) + int(b[i])*at + 128) >> 8)
				}
				if got := hue.Lerp(a, b, at); got != want {
					t.Fatalf("Lerp(%v, %v, %d): %v; want %v", a, b, at, got, want)
				}
			}
		}
	}
	if got := hue.Lerp(api.Colour{}, api.Colour{255, 255, 255, 255}, 128); got != (api.Colour{128, 128, 128, 128}) {
		t.Errorf("the document's example: %v", got)
	}
}

func TestLerpIsHeld(t *testing.T) { // P3.1, P3.3
	for x := range 256 {
		a, b := four(x), four(x*11+3)
		for _, at := range []int{0, -1, -256, math.MinInt} {
			if got := hue.Lerp(a, b, at); got != a {
				t.Fatalf("Lerp(%v, %v, %d): %v", a, b, at, got)
			}
		}
		for _, at := range []int{256, 257, 512, math.MaxInt} {
			if got := hue.Lerp(a, b, at); got != b {
				t.Fatalf("Lerp(%v, %v, %d): %v", a, b, at, got)
			}
		}
	}
}

func TestMean(t *testing.T) { // P3.1
	for n := range 1024 {
		a, b, c, d := four(n), four(n*3+1), four(n*5+2), four(n/4)
		var want api.Colour
		for i := range want {
			want[i] = byte((int(a[i]) + int(b[i]) + int(c[i]) + int(d[i]) + 2) >> 2)
		}
		if got := hue.Mean(a, b, c, d); got != want {
			t.Fatalf("Mean(%v, %v, %v, %v): %v; want %v", a, b, c, d, got, want)
		}
	}
}

func TestTimes(t *testing.T) { // P3.1
	for x := range 256 {
		for y := range 256 {
			a, b := four(x), four(y)
			var want api.Colour
			for i := range want {
				want[i] = byte((int(a[i])*int(b[i]) + 127) / 255)
			}
			if got := hue.Times(a, b); got != want {
				t.Fatalf("Times(%v, %v): %v; want %v", a, b, got, want)
			}
		}
	}
}

func TestBytes(t *testing.T) { // P3.2
	l := []api.Colour{{1, 2, 3, 4}, {5, 6, 7, 8}, {0, 255, 0, 9}}
	want := []byte{1, 2, 3, 4, 5, 6, 7, 8, 0, 255, 0, 9}
	if got := hue.Bytes(l); !bytes.Equal(got, want) {
		t.Errorf("Bytes: %v", got)
	}
	if got := hue.Bytes(nil); len(got) != 0 {
		t.Errorf("Bytes of none: %v", got)
	}
	if got, ok := hue.From(want); !ok || !slices.Equal(got, l) {
		t.Errorf("From: %v, %v", got, ok)
	}
	if got, ok := hue.From(nil); !ok || len(got) != 0 {
		t.Errorf("From none: %v, %v", got, ok)
	}
	for _, n := range []int{1, 2, 3, 5, 6, 7, 9, 11} {
		if got, ok := hue.From(want[:n]); ok || len(got) != 0 {
			t.Errorf("From %d bytes: %v, %v", n, got, ok)
		}
	}
}

func TestWhatFollows(t *testing.T) { // P3.3
	white := api.Colour{255, 255, 255, 255}
	for n := range 256 {
		c := four(n)
		if hue.Mean(c, c, c, c) != c || hue.Times(white, c) != c || hue.Times(c, white) != c || hue.Lerp(c, c, n) != c {
			t.Errorf("of %v alone: %v, %v", c, hue.Mean(c, c, c, c), hue.Times(white, c))
		}
	}
}

func TestNewMemory(t *testing.T) { // P3.3
	l := []api.Colour{{1, 2, 3, 4}}
	b := hue.Bytes(l)
	b[0] = 9
	if l[0][0] != 1 || hue.Bytes(l)[0] != 1 {
		t.Error("Bytes shares memory")
	}
	in := []byte{1, 2, 3, 4, 5, 6, 7, 8}
	got, _ := hue.From(in[:4])
	got[0][1] = 9
	_ = append(got, api.Colour{7, 7, 7, 7})
	if !bytes.Equal(in, []byte{1, 2, 3, 4, 5, 6, 7, 8}) {
		t.Error("From shares memory")
	}
}
