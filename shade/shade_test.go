package shade_test

import (
	"math"
	"testing"

	"wainscot/api"
	"wainscot/hue"
	"wainscot/sample"
	"wainscot/shade"
)

var (
	tint  = api.Colour{200, 100, 50, 25}
	white = api.Colour{255, 255, 255, 255}
	got   = sample.Got{Colour: api.Colour{10, 20, 255, 128}, Wants: []api.Page{{L: 1}}, Used: []api.Page{{L: 1}}}
	full  = sample.Got{Colour: api.Colour{10, 20, 255, 128}, Full: true}
)

func none() []int { return []int{0, 5, -1, 64, math.MinInt, math.MaxInt} }

func TestMayAndAsks(t *testing.T) { // P28.1
	for shader, asks := range map[int]bool{1: false, 2: true, 3: true, 4: true} {
		if !shade.May(shader) || shade.Asks(shader) != asks {
			t.Errorf("%d: %v, %v", shader, shade.May(shader), shade.Asks(shader))
		}
	}
	for _, shader := range none() {
		if shade.May(shader) || shade.Asks(shader) {
			t.Errorf("%d: %v, %v", shader, shade.May(shader), shade.Asks(shader))
		}
	}
}

func TestPixel(t *testing.T) { // P28.1, P28.2
	for _, c := range []struct {
		shader int
		g      sample.Got
		want   api.Colour
	}{
		{api.Flat, got, tint}, {api.Flat, full, tint}, {api.Flat, sample.Got{}, tint},
		{api.Tex, got, got.Colour}, {api.Tex, full, got.Colour}, {api.Tex, sample.Got{}, api.Colour{}},
		{api.Tint, got, hue.Times(got.Colour, tint)}, {api.Tint, full, hue.Times(got.Colour, tint)}, {api.Tint, sample.Got{}, api.Colour{}},
		{api.Debug, got, tint}, {api.Debug, full, white}, {api.Debug, sample.Got{}, tint},
	} {
		if p := shade.Pixel(c.shader, tint, c.g); p != c.want {
			t.Errorf("Pixel(%d) of %v: %v; want %v", c.shader, c.g, p, c.want)
		}
	}
	for _, shader := range none() {
		for _, g := range []sample.Got{got, full, {}} {
			if p := shade.Pixel(shader, tint, g); p != (api.Colour{}) {
				t.Errorf("Pixel(%d): %v", shader, p)
			}
		}
	}
}
