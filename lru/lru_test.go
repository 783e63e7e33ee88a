package lru_test

import (
	"math"
	"slices"
	"testing"

	"wainscot/api"
	"wainscot/lru"
)

func make1(t *testing.T, n int) *lru.List {
	t.Helper()
	l, e := lru.New(n)
	if e != api.OK {
		t.Fatalf("New(%d): %d", n, e)
	}
	return l
}

func order(l *lru.List) []int { return slices.Collect(l.Order()) }

func TestNew(t *testing.T) { // P17.1
	for _, n := range []int{0, -1, 129, math.MinInt, math.MaxInt} {
		if l, e := lru.New(n); l != nil || e != api.ErrArg {
			t.Errorf("New(%d): %d", n, e)
		}
	}
	for _, n := range []int{1, 2, 128} {
		l := make1(t, n)
		got := order(l)
		for i := range n {
			if len(got) != n || got[i] != i {
				t.Fatalf("New(%d): %v", n, got)
			}
		}
		if i, ok := l.Oldest(); i != 0 || !ok {
			t.Errorf("Oldest of %d: %d, %v", n, i, ok)
		}
	}
}

func TestExample(t *testing.T) { // P17.1
	l := make1(t, 3)
	if e := l.Touch(0); e != api.OK || !slices.Equal(order(l), []int{1, 2, 0}) {
		t.Errorf("%d, %v", e, order(l))
	}
}

func TestLikeAPlainRow(t *testing.T) { // P17.1, P17.2
	x := uint64(12345)
	for _, n := range []int{1, 2, 3, 7, 128} {
		l := make1(t, n)
		var row []int
		pinned := map[int]bool{}
		for i := range n {
			row = append(row, i)
		}
		for range 500 {
			x ^= x << 13
			x ^= x >> 7
			x ^= x << 17
			i := int(x>>20)%(n+2) - 1
			in := i >= 0 && i < n
			want := api.OK
			if !in {
				want = api.ErrArg
			}
			if x>>50%8 == 0 {
				if e := l.Pin(i); e != want {
					t.Fatalf("Pin(%d) of %d: %d", i, n, e)
				}
				if in {
					pinned[i] = true
				}
			} else {
				if e := l.Touch(i); e != want {
					t.Fatalf("Touch(%d) of %d: %d", i, n, e)
				}
				if in {
					row = append(slices.DeleteFunc(row, func(o int) bool { return o == i }), i)
				}
			}
			if !slices.Equal(order(l), row) {
				t.Fatalf("Order: %v; want %v", order(l), row)
			}
			oldest, ok := 0, false
			for _, o := range row {
				if !pinned[o] {
					oldest, ok = o, true
					break
				}
			}
			if got, gotOK := l.Oldest(); got != oldest || gotOK != ok {
				t.Fatalf("Oldest: %d, %v; want %d, %v", got, gotOK, oldest, ok)
			}
		}
	}
}

func TestPinned(t *testing.T) { // P17.1
	l := make1(t, 3)
	l.Pin(0)
	if i, ok := l.Oldest(); i != 1 || !ok {
		t.Errorf("Oldest: %d, %v", i, ok)
	}
	if !slices.Equal(order(l), []int{0, 1, 2}) {
		t.Errorf("Order: %v", order(l))
	}
	l.Touch(0)
	if i, ok := l.Oldest(); i != 1 || !ok || !slices.Equal(order(l), []int{1, 2, 0}) {
		t.Errorf("behind a Touch of it: %d, %v", i, order(l))
	}
	l.Pin(1)
	l.Pin(2)
	l.Pin(2)
	if i, ok := l.Oldest(); i != 0 || ok {
		t.Errorf("Oldest of those that are all pinned: %d, %v", i, ok)
	}
}

func TestRefuses(t *testing.T) { // P17.1
	l := make1(t, 3)
	for _, i := range []int{-1, 3, 4, math.MinInt, math.MaxInt} {
		if l.Touch(i) != api.ErrArg || l.Pin(i) != api.ErrArg {
			t.Errorf("%d is taken", i)
		}
	}
	if i, ok := l.Oldest(); i != 0 || !ok || !slices.Equal(order(l), []int{0, 1, 2}) {
		t.Errorf("what was refused has changed something: %v", order(l))
	}
}

func TestOrderEndsEarly(t *testing.T) { // P17.1
	l := make1(t, 5)
	for i := range l.Order() {
		if i == 2 {
			break
		}
		if i > 2 {
			t.Errorf("it goes on: %d", i)
		}
	}
}

func TestNil(t *testing.T) { // P17.1
	var l *lru.List
	i, ok := l.Oldest()
	if l.Touch(0) != api.ErrArg || l.Pin(0) != api.ErrArg || i != 0 || ok || len(order(l)) != 0 {
		t.Error("a nil List")
	}
}
