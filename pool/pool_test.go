package pool_test

import (
	"bytes"
	"math"
	"slices"
	"testing"

	"wainscot/api"
	"wainscot/page"
	"wainscot/pool"
)

// data is a page's bytes.
func data(n int) []byte { return bytes.Repeat([]byte{byte(n), byte(n >> 8)}, 72) }

func make1(t *testing.T, n, depth int) *pool.Pool {
	t.Helper()
	p, e := pool.New(n, depth, data(1000))
	if e != api.OK {
		t.Fatalf("New(%d, %d): %d", n, depth, e)
	}
	return p
}

func all(p *pool.Pool) []api.Page { return slices.Collect(p.All()) }

func TestNew(t *testing.T) { // P18.1
	for _, n := range []int{0, -1, 129, math.MinInt, math.MaxInt} {
		if p, e := pool.New(n, 1, data(0)); p != nil || e != api.ErrArg {
			t.Errorf("New of %d places: %d", n, e)
		}
	}
	for _, d := range []int{-1, 4, math.MinInt, math.MaxInt} {
		if p, e := pool.New(5, d, data(0)); p != nil || e != api.ErrArg {
			t.Errorf("New of depth %d: %d", d, e)
		}
	}
	for _, b := range [][]byte{nil, data(0)[:143], append(data(0), 0)} {
		if p, e := pool.New(5, 1, b); p != nil || e != api.ErrArg {
			t.Errorf("New of a root of %d bytes: %d", len(b), e)
		}
	}
	for d := range 4 {
		for _, n := range []int{1, 128} {
			p := make1(t, n, d)
			b, ok := p.Get(api.Page{L: d})
			if p.Len() != 1 || !slices.Equal(all(p), []api.Page{{L: d}}) || !ok || !bytes.Equal(b, data(1000)) {
				t.Errorf("New(%d, %d): %v", n, d, all(p))
			}
		}
	}
}

func TestExample(t *testing.T) { // P18.1
	p := make1(t, 1, 1)
	if gone, e := p.Put(api.Page{}, data(1)); len(gone) != 0 || e != api.ErrFull {
		t.Errorf("Put of another page: %v, %d", gone, e)
	}
	if gone, e := p.Put(api.Page{L: 1}, data(2)); len(gone) != 0 || e != api.OK {
		t.Errorf("Put of the root: %v, %d", gone, e)
	}
	if b, ok := p.Get(api.Page{L: 1}); !ok || !bytes.Equal(b, data(2)) || p.Len() != 1 {
		t.Error("the root has not its new bytes")
	}
}

// row is a pool by plain means: its pages but the root, the oldest one first.
type row struct {
	n     int
	root  api.Page
	pages []api.Page
	bytes map[api.Page][]byte
}

func (r *row) put(g api.Page, b []byte) (gone []api.Page, e api.Errno) {
	if _, there := r.bytes[g]; there {
		r.bytes[g] = b
		return nil, api.OK
	}
	if len(r.pages)+1 == r.n {
		if len(r.pages) == 0 {
			return nil, api.ErrFull
		}
		gone = []api.Page{r.pages[0]}
		delete(r.bytes, r.pages[0])
		r.pages = r.pages[1:]
	}
	r.pages = append(r.pages, g)
	r.bytes[g] = b
	return gone, api.OK
}

func (r *row) touch(g api.Page) bool {
	if i := slices.Index(r.pages, g); i >= 0 {
		r.pages = append(slices.Delete(slices.Clone(r.pages), i, i+1), g)
		return true
	}
	return g == r.root
}

func TestLikeAPlainRow(t *testing.T) { // P18.1, P18.2, P18.3
	x := uint64(999)
	for _, n := range []int{1, 2, 3, 6, 20, 128} {
		depth := 2
		p := make1(t, n, depth)
		r := &row{n: n, root: page.Root(depth), bytes: map[api.Page][]byte{page.Root(depth): data(1000)}}
		for step := range 600 {
			x ^= x << 13
			x ^= x >> 7
			x ^= x << 17
			g, _ := page.At(depth, int(x>>20)%21)
			if x>>60%2 == 0 {
				gone, e := p.Put(g, data(step))
				want, wantE := r.put(g, data(step))
				if !slices.Equal(gone, want) || e != wantE {
					t.Fatalf("Put(%v): %v, %d; want %v, %d", g, gone, e, want, wantE)
				}
			} else if got, want := p.Touch(g), r.touch(g); got != want {
				t.Fatalf("Touch(%v): %v", g, got)
			}
			var there []api.Page
			for g := range page.All(depth) {
				want, in := r.bytes[g]
				if got, ok := p.Get(g); ok != in || p.Has(g) != in || !bytes.Equal(got, want) {
					t.Fatalf("Get(%v): %v; want %v", g, ok, in)
				}
				if in {
					there = append(there, g)
				}
			}
			if p.Len() != len(there) || p.Len() > n || !p.Has(r.root) || !slices.Equal(all(p), there) {
				t.Fatalf("All: %v; want %v", all(p), there)
			}
		}
	}
}

func TestPutOfOneThatIsThereIsNoTouch(t *testing.T) { // P18.1
	a, b, c := api.Page{}, api.Page{X: 1}, api.Page{Y: 1}
	p := make1(t, 3, 1)
	p.Put(a, data(1))
	p.Put(b, data(2))
	p.Put(a, data(3))
	p.Get(a)
	p.Has(a)
	if gone, _ := p.Put(c, data(4)); !slices.Equal(gone, []api.Page{a}) {
		t.Errorf("gone: %v", gone)
	}
	p.Touch(b)
	if gone, _ := p.Put(a, data(5)); !slices.Equal(gone, []api.Page{c}) {
		t.Errorf("gone behind a Touch: %v", gone)
	}
}

func TestRefuses(t *testing.T) { // P18.1, P18.2
	p := make1(t, 4, 1)
	for _, g := range []api.Page{{L: 2}, {L: -1}, {X: 2}, {Y: -1}, {L: 1, X: 1}, {L: math.MaxInt}} {
		gone, e := p.Put(g, data(1))
		b, ok := p.Get(g)
		if len(gone) != 0 || e != api.ErrArg || len(b) != 0 || ok || p.Has(g) || p.Touch(g) {
			t.Errorf("%v is taken: %d", g, e)
		}
	}
	for _, b := range [][]byte{nil, data(0)[:143], append(data(0), 0)} {
		for _, g := range []api.Page{{}, {L: 1}} {
			if gone, e := p.Put(g, b); len(gone) != 0 || e != api.ErrArg {
				t.Errorf("Put of %d bytes: %d", len(b), e)
			}
		}
	}
	if b, _ := p.Get(api.Page{L: 1}); p.Len() != 1 || !bytes.Equal(b, data(1000)) {
		t.Error("what was refused has changed something")
	}
	full := make1(t, 1, 1)
	if _, e := full.Put(api.Page{L: 9}, data(1)); e != api.ErrArg {
		t.Errorf("Put of no page where all are pinned: %d", e)
	}
}

func TestAllEndsEarly(t *testing.T) { // P18.2
	p := make1(t, 4, 1)
	p.Put(api.Page{X: 1, Y: 1}, data(1))
	p.Put(api.Page{X: 1}, data(1))
	var l []api.Page
	for g := range p.All() {
		l = append(l, g)
		if len(l) == 2 {
			break
		}
	}
	if !slices.Equal(l, []api.Page{{L: 1}, {X: 1}}) {
		t.Errorf("the first two: %v", l)
	}
}

func TestNil(t *testing.T) { // P18.2
	var p *pool.Pool
	gone, e := p.Put(api.Page{}, data(1))
	b, ok := p.Get(api.Page{})
	if len(gone) != 0 || e != api.ErrArg || len(b) != 0 || ok || p.Has(api.Page{}) || p.Touch(api.Page{}) || p.Len() != 0 || len(all(p)) != 0 {
		t.Error("a nil Pool")
	}
}

func TestNewMemory(t *testing.T) { // P18.3
	root, in := data(5), data(6)
	p, _ := pool.New(3, 1, root)
	p.Put(api.Page{}, in)
	clear(root)
	clear(in)
	got, _ := p.Get(api.Page{L: 1})
	other, _ := p.Get(api.Page{})
	if !bytes.Equal(got, data(5)) || !bytes.Equal(other, data(6)) {
		t.Error("what is handed in is kept")
	}
	clear(got)
	if got, _ := p.Get(api.Page{L: 1}); !bytes.Equal(got, data(5)) {
		t.Error("Get shares memory")
	}
	again := data(7)
	p.Put(api.Page{}, again)
	clear(again)
	if got, _ := p.Get(api.Page{}); !bytes.Equal(got, data(7)) {
		t.Error("a Put of one that is there keeps what is handed in")
	}
}
