package page_test

import (
	"math"
	"slices"
	"testing"

	"wainscot/api"
	"wainscot/page"
)

// noDepths are numbers that no pyramid has as its depth.
func noDepths() []int { return []int{-1, 4, 5, 64, math.MinInt, math.MaxInt} }

// pages is all of a depth, by the words of the document.
func pages(d int) []api.Page {
	var l []api.Page
	for level := d; level >= 0; level-- {
		side := 1
		for range d - level {
			side *= 2
		}
		for y := range side {
			for x := range side {
				l = append(l, api.Page{L: level, X: x, Y: y})
			}
		}
	}
	return l
}

// strangers are pages that no depth below has, or not this one.
func strangers(d int) []api.Page {
	side := 1 << d
	return []api.Page{
		{L: -1}, {L: d + 1}, {X: -1}, {Y: -1}, {X: side}, {Y: side}, {X: side - 1, Y: side},
		{L: d, X: 1}, {L: d, Y: 1}, {L: d, X: -1}, {L: math.MinInt}, {L: math.MaxInt}, {X: math.MinInt}, {Y: math.MaxInt},
	}
}

func TestCountAndAll(t *testing.T) { // P11.1
	for d, count := range []int{1, 5, 21, 85} {
		got := slices.Collect(page.All(d))
		if page.Count(d) != count || !slices.Equal(got, pages(d)) {
			t.Errorf("depth %d: %d, %v", d, page.Count(d), got)
		}
	}
	for _, d := range noDepths() {
		if page.Count(d) != 0 || len(slices.Collect(page.All(d))) != 0 {
			t.Errorf("depth %d has pages", d)
		}
	}
}

func TestAllEndsEarly(t *testing.T) { // P11.1
	for stop := 1; stop < 21; stop++ {
		var l []api.Page
		for p := range page.All(2) {
			l = append(l, p)
			if len(l) == stop {
				break
			}
		}
		if !slices.Equal(l, pages(2)[:stop]) {
			t.Errorf("the first %d: %v", stop, l)
		}
	}
}

func TestValidKeyAt(t *testing.T) { // P11.1
	for d := range 4 {
		for key, p := range pages(d) {
			if !page.Valid(d, p) || page.Key(d, p) != key {
				t.Errorf("depth %d, %v: %v, %d", d, p, page.Valid(d, p), page.Key(d, p))
			}
			if got, ok := page.At(d, key); got != p || !ok {
				t.Errorf("At(%d, %d): %v, %v", d, key, got, ok)
			}
		}
		for _, p := range strangers(d) {
			if page.Valid(d, p) || page.Key(d, p) != -1 {
				t.Errorf("depth %d has %v", d, p)
			}
		}
		for _, key := range []int{-1, page.Count(d), math.MinInt, math.MaxInt} {
			if got, ok := page.At(d, key); got != (api.Page{}) || ok {
				t.Errorf("At(%d, %d): %v, %v", d, key, got, ok)
			}
		}
	}
	for _, d := range noDepths() {
		got, ok := page.At(d, 0)
		if page.Valid(d, api.Page{}) || page.Key(d, api.Page{}) != -1 || got != (api.Page{}) || ok {
			t.Errorf("depth %d has a page", d)
		}
	}
	if page.Key(1, api.Page{X: 1}) != 2 {
		t.Error("the document's example")
	}
}

func TestCmp(t *testing.T) { // P11.1
	l := pages(2)
	for i, a := range l {
		for j, b := range l {
			want := 0
			if i < j {
				want = -1
			} else if i > j {
				want = 1
			}
			if got := page.Cmp(2, a, b); got != want {
				t.Fatalf("Cmp(%v, %v): %d", a, b, got)
			}
		}
	}
}

func TestUp(t *testing.T) { // P11.2
	for d := range 4 {
		for _, p := range pages(d) {
			want := p
			for l := p.L; l <= d; l++ {
				if got, ok := page.Up(d, p, l); got != want || !ok {
					t.Errorf("Up(%d, %v, %d): %v, %v; want %v", d, p, l, got, ok, want)
				}
				want = api.Page{L: l + 1, X: want.X / 2, Y: want.Y / 2}
			}
			for _, l := range []int{p.L - 1, d + 1, -1, math.MinInt, math.MaxInt} {
				if got, ok := page.Up(d, p, l); got != (api.Page{}) || ok {
					t.Errorf("Up(%d, %v, %d): %v, %v", d, p, l, got, ok)
				}
			}
		}
		for _, p := range strangers(d) {
			if got, ok := page.Up(d, p, d); got != (api.Page{}) || ok {
				t.Errorf("Up(%d, %v): %v, %v", d, p, got, ok)
			}
		}
	}
	for _, d := range noDepths() {
		if got, ok := page.Up(d, api.Page{}, 0); got != (api.Page{}) || ok {
			t.Errorf("Up of depth %d: %v, %v", d, got, ok)
		}
	}
}

func TestRoot(t *testing.T) { // P11.2
	for d := range 4 {
		if page.Root(d) != (api.Page{L: d}) || page.Key(d, page.Root(d)) != 0 {
			t.Errorf("Root(%d): %v", d, page.Root(d))
		}
	}
	for _, d := range noDepths() {
		if page.Root(d) != (api.Page{}) {
			t.Errorf("Root(%d): %v", d, page.Root(d))
		}
	}
}

func TestParentsAndChildren(t *testing.T) { // P11.3
	for d := range 4 {
		children := map[api.Page]int{}
		for p := range page.All(d) {
			if parent, ok := page.Up(d, p, p.L+1); ok {
				children[parent]++
			} else if p != page.Root(d) {
				t.Errorf("%v has no parent", p)
			}
		}
		for p := range page.All(d) {
			if p.L > 0 && children[p] != 4 || p.L == 0 && children[p] != 0 {
				t.Errorf("%v has %d children", p, children[p])
			}
		}
	}
}
