package queue_test

import (
	"math"
	"slices"
	"sort"
	"testing"

	"wainscot/api"
	"wainscot/page"
	"wainscot/queue"
)

func make1(t *testing.T, n, depth int) *queue.Queue {
	t.Helper()
	q, e := queue.New(n, depth)
	if e != api.OK {
		t.Fatalf("New(%d, %d): %d", n, depth, e)
	}
	return q
}

func all(q *queue.Queue) []api.Want { return slices.Collect(q.All()) }

func TestNew(t *testing.T) { // P20.1
	for _, n := range []int{0, -1, 129, math.MinInt, math.MaxInt} {
		if q, e := queue.New(n, 1); q != nil || e != api.ErrArg {
			t.Errorf("New of %d: %d", n, e)
		}
	}
	for _, d := range []int{-1, 4, math.MinInt, math.MaxInt} {
		if q, e := queue.New(5, d); q != nil || e != api.ErrArg {
			t.Errorf("New of depth %d: %d", d, e)
		}
	}
	for _, n := range []int{1, 128} {
		q := make1(t, n, 3)
		if w, ok := q.Pop(); q.Len() != 0 || len(all(q)) != 0 || ok || w != (api.Want{}) {
			t.Errorf("a new one: %v", all(q))
		}
	}
}

func TestExample(t *testing.T) { // P20.1
	a, b := api.Page{}, api.Page{X: 1}
	q := make1(t, 1, 1)
	q.Add(a, 5)
	if out, e := q.Add(b, 4); len(out) != 0 || e != api.ErrFull || !slices.Equal(all(q), []api.Want{{Page: a, N: 5}}) {
		t.Errorf("a lesser one: %v, %d", out, e)
	}
	if out, e := q.Add(b, 6); !slices.Equal(out, []api.Page{a}) || e != api.OK || !slices.Equal(all(q), []api.Want{{Page: b, N: 6}}) {
		t.Errorf("a greater one: %v, %d", out, e)
	}
	if out, e := q.Add(a, 6); !slices.Equal(out, []api.Page{b}) || e != api.OK {
		t.Errorf("one of the same N, and a lesser Key: %v, %d", out, e)
	}
	if out, e := q.Add(b, 6); len(out) != 0 || e != api.ErrFull {
		t.Errorf("one of the same N, and a greater Key: %v, %d", out, e)
	}
}

// plain is a queue by sorting all of it each time.
type plain struct {
	n, depth int
	l        []api.Want
}

func (q *plain) add(p api.Page, prio int) (out []api.Page, e api.Errno) {
	i := slices.IndexFunc(q.l, func(w api.Want) bool { return w.Page == p })
	if i >= 0 {
		q.l[i].N = max(q.l[i].N, prio)
	} else {
		q.l = append(q.l, api.Want{Page: p, N: prio})
	}
	sort.Slice(q.l, func(i, j int) bool {
		if q.l[i].N != q.l[j].N {
			return q.l[i].N > q.l[j].N
		}
		return page.Key(q.depth, q.l[i].Page) < page.Key(q.depth, q.l[j].Page)
	})
	if len(q.l) <= q.n {
		return nil, api.OK
	}
	last := q.l[q.n].Page
	q.l = q.l[:q.n]
	if last == p {
		return nil, api.ErrFull
	}
	return []api.Page{last}, api.OK
}

func TestLikeAPlainOne(t *testing.T) { // P20.1, P20.2, P20.3
	x := uint64(31337)
	for _, n := range []int{1, 2, 5, 20, 128} {
		q, r := make1(t, n, 3), &plain{n: n, depth: 3}
		for range 800 {
			x ^= x << 13
			x ^= x >> 7
			x ^= x << 17
			p, _ := page.At(3, int(x>>20)%85)
			prio := 1 + int(x>>40)%9
			if x>>60 < 3 {
				w, ok := q.Pop()
				want := api.Want{}
				if len(r.l) > 0 {
					want, r.l = r.l[0], r.l[1:]
				}
				if w != want || ok != (want.N > 0) {
					t.Fatalf("Pop: %v, %v; want %v", w, ok, want)
				}
			} else {
				out, e := q.Add(p, prio)
				want, wantE := r.add(p, prio)
				if !slices.Equal(out, want) || e != wantE {
					t.Fatalf("Add(%v, %d): %v, %d; want %v, %d", p, prio, out, e, want, wantE)
				}
			}
			if q.Len() != len(r.l) || !slices.Equal(all(q), r.l) {
				t.Fatalf("All: %v; want %v", all(q), r.l)
			}
		}
	}
}

func TestAddOfOneThatWaits(t *testing.T) { // P20.1
	a, b := api.Page{}, api.Page{X: 1}
	q := make1(t, 2, 1)
	q.Add(a, 3)
	q.Add(b, 5)
	for _, prio := range []int{1, 2, 3} {
		if out, e := q.Add(a, prio); len(out) != 0 || e != api.OK || !slices.Equal(all(q), []api.Want{{Page: b, N: 5}, {Page: a, N: 3}}) {
			t.Errorf("Add of a lesser prio: %v, %v, %d", all(q), out, e)
		}
	}
	if out, e := q.Add(a, math.MaxInt); len(out) != 0 || e != api.OK || !slices.Equal(all(q), []api.Want{{Page: a, N: math.MaxInt}, {Page: b, N: 5}}) {
		t.Errorf("Add of a greater prio: %v, %v, %d", all(q), out, e)
	}
}

func TestRefuses(t *testing.T) { // P20.1
	q := make1(t, 2, 1)
	for _, p := range []api.Page{{L: 2}, {L: -1}, {X: 2}, {Y: -1}, {L: 1, X: 1}, {L: math.MaxInt}} {
		if out, e := q.Add(p, 1); len(out) != 0 || e != api.ErrArg {
			t.Errorf("Add(%v): %d", p, e)
		}
	}
	for _, prio := range []int{0, -1, math.MinInt} {
		if out, e := q.Add(api.Page{}, prio); len(out) != 0 || e != api.ErrArg {
			t.Errorf("Add of %d: %d", prio, e)
		}
	}
	if q.Len() != 0 {
		t.Errorf("what was refused waits: %v", all(q))
	}
}

func TestAllEndsEarly(t *testing.T) { // P20.2
	q := make1(t, 9, 1)
	for p := range page.All(1) {
		q.Add(p, 1+page.Key(1, p))
	}
	var l []api.Want
	for w := range q.All() {
		l = append(l, w)
		if len(l) == 2 {
			break
		}
	}
	if !slices.Equal(l, []api.Want{{Page: api.Page{X: 1, Y: 1}, N: 5}, {Page: api.Page{Y: 1}, N: 4}}) || q.Len() != 5 {
		t.Errorf("the first two: %v", l)
	}
}

func TestNil(t *testing.T) { // P20.2
	var q *queue.Queue
	out, e := q.Add(api.Page{}, 1)
	w, ok := q.Pop()
	if len(out) != 0 || e != api.ErrArg || w != (api.Want{}) || ok || q.Len() != 0 || len(all(q)) != 0 {
		t.Error("a nil Queue")
	}
}
