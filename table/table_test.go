package table_test

import (
	"math"
	"testing"

	"wainscot/api"
	"wainscot/page"
	"wainscot/table"
)

func make1(t *testing.T, depth int) *table.Table {
	t.Helper()
	got, e := table.New(depth)
	if e != api.OK {
		t.Fatalf("New(%d): %d", depth, e)
	}
	return got
}

func TestNew(t *testing.T) { // P19.1, P19.2
	for _, d := range []int{-1, 4, math.MinInt, math.MaxInt} {
		if got, e := table.New(d); got != nil || e != api.ErrArg {
			t.Errorf("New(%d): %d", d, e)
		}
	}
	for d := range 4 {
		got := make1(t, d)
		for p := range page.All(d) {
			at, ok := got.Look(p)
			if at != page.Root(d) || !ok || got.There(p) != (p == page.Root(d)) {
				t.Errorf("depth %d: Look(%v) is %v, %v", d, p, at, ok)
			}
		}
	}
}

func TestSetAndLook(t *testing.T) { // P19.1
	x := uint64(4321)
	for d := range 4 {
		got := make1(t, d)
		there := map[api.Page]bool{page.Root(d): true}
		for range 300 {
			x ^= x << 13
			x ^= x >> 7
			x ^= x << 17
			p, _ := page.At(d, int(x>>20)%page.Count(d))
			on, want := x>>50%3 != 0, api.OK
			if p == page.Root(d) && !on {
				want = api.ErrArg
			} else {
				there[p] = on
			}
			if e := got.Set(p, on); e != want {
				t.Fatalf("Set(%v, %v): %d", p, on, e)
			}
			for q := range page.All(d) {
				up := q
				for !there[up] {
					up = api.Page{L: up.L + 1, X: up.X / 2, Y: up.Y / 2}
				}
				if at, ok := got.Look(q); at != up || !ok || got.There(q) != there[q] {
					t.Fatalf("Look(%v): %v, %v; want %v", q, at, ok, up)
				}
			}
		}
	}
}

func TestRefuses(t *testing.T) { // P19.1
	got := make1(t, 1)
	for _, p := range []api.Page{{L: 2}, {L: -1}, {X: 2}, {Y: 2}, {X: -1}, {Y: -1}, {L: 1, Y: 1}, {L: math.MaxInt}, {X: math.MinInt}} {
		at, ok := got.Look(p)
		if got.Set(p, true) != api.ErrArg || got.Set(p, false) != api.ErrArg || at != (api.Page{}) || ok || got.There(p) {
			t.Errorf("%v is taken", p)
		}
	}
	if e := got.Set(api.Page{L: 1}, false); e != api.ErrArg || !got.There(api.Page{L: 1}) {
		t.Errorf("the root can go: %d", e)
	}
	if e := got.Set(api.Page{L: 1}, true); e != api.OK {
		t.Errorf("Set of the root: %d", e)
	}
}

func TestNil(t *testing.T) { // P19.1
	var got *table.Table
	at, ok := got.Look(api.Page{})
	if got.Set(api.Page{}, true) != api.ErrArg || at != (api.Page{}) || ok || got.There(api.Page{}) {
		t.Error("a nil Table")
	}
}
