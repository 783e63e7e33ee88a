package load_test

import (
	"bytes"
	"math"
	"slices"
	"testing"

	"wainscot/api"
	"wainscot/disk"
	"wainscot/load"
	"wainscot/page"
	"wainscot/pool"
	"wainscot/queue"
	"wainscot/store"
	"wainscot/table"
)

// data is a page's bytes.
func data(key int) []byte { return bytes.Repeat([]byte{byte(key), byte(key + 100)}, 72) }

// kit is all that Run works on, of depth 2; the store has all pages but those of the Keys that are left out.
type kit struct {
	d *disk.Disk
	s *store.Store
	p *pool.Pool
	t *table.Table
	q *queue.Queue
}

func newKit(t *testing.T, places int, without ...int) kit {
	t.Helper()
	var k kit
	var e [5]api.Errno
	k.d, e[0] = disk.New(400)
	k.s, e[1] = store.Format(k.d, 2, false)
	var l []api.Item
	for p := range page.All(2) {
		if key := page.Key(2, p); !slices.Contains(without, key) {
			l = append(l, api.Item{Page: p, Data: data(key)})
		}
	}
	if e := k.s.Commit(l); e != api.OK {
		t.Fatalf("Commit: %d", e)
	}
	k.p, e[2] = pool.New(places, 2, data(0))
	k.t, e[3] = table.New(2)
	k.q, e[4] = queue.New(128, 2)
	if e != [5]api.Errno{} {
		t.Fatalf("no kit: %v", e)
	}
	return k
}

// wants has pages of these Keys wait, the first one most wanted.
func (k kit) wants(keys ...int) {
	for i, key := range keys {
		p, _ := page.At(2, key)
		k.q.Add(p, 100-i)
	}
}

// pages is the pages of Keys.
func pages(keys ...int) []api.Page {
	var l []api.Page
	for _, key := range keys {
		p, _ := page.At(2, key)
		l = append(l, p)
	}
	return l
}

func (k kit) run(t *testing.T, budget int, wantE api.Errno, loads, bad, gone []int) {
	t.Helper()
	got, e := load.Run(k.s, k.p, k.t, k.q, budget)
	if e != wantE || !slices.Equal(got.Loads, pages(loads...)) || !slices.Equal(got.Bad, pages(bad...)) || !slices.Equal(got.Gone, pages(gone...)) {
		t.Errorf("Run(%d): %v, %d; want Loads %v, Bad %v, Gone %v, %d", budget, got, e, pages(loads...), pages(bad...), pages(gone...), wantE)
	}
}

// there checks that just these pages are in the pool, with their bytes, and in the table.
func (k kit) there(t *testing.T, keys ...int) {
	t.Helper()
	for p := range page.All(2) {
		key := page.Key(2, p)
		want := slices.Contains(keys, key)
		b, ok := k.p.Get(p)
		if ok != want || k.t.There(p) != want || want && !bytes.Equal(b, data(key)) {
			t.Errorf("%v: pool %v, table %v; want %v", p, ok, k.t.There(p), want)
		}
	}
}

func TestRun(t *testing.T) { // P21.1
	k := newKit(t, 20)
	k.wants(9, 3, 7, 20, 1)
	k.run(t, 3, api.OK, []int{9, 3, 7}, nil, nil)
	k.there(t, 0, 9, 3, 7)
	if k.q.Len() != 2 {
		t.Errorf("%d wait", k.q.Len())
	}
	k.run(t, 0, api.OK, nil, nil, nil)
	if k.q.Len() != 2 {
		t.Errorf("behind a budget of 0 %d wait", k.q.Len())
	}
	k.run(t, 128, api.OK, []int{20, 1}, nil, nil)
	k.there(t, 0, 9, 3, 7, 20, 1)
	k.run(t, 128, api.OK, nil, nil, nil)
}

func TestThoseThatAreThereArePassedOver(t *testing.T) { // P21.1
	k := newKit(t, 20)
	k.wants(0, 4, 5)
	k.p.Put(pages(4)[0], data(4))
	k.run(t, 1, api.OK, []int{5}, nil, nil)
	if k.q.Len() != 0 {
		t.Errorf("%d wait", k.q.Len())
	}
	k.wants(4, 0)
	k.run(t, 1, api.OK, nil, nil, nil)
	if k.q.Len() != 0 {
		t.Errorf("those that are there wait still: %d", k.q.Len())
	}
}

func TestThoseThatGo(t *testing.T) { // P21.1
	k := newKit(t, 3)
	k.wants(1, 2, 3, 4)
	k.run(t, 128, api.OK, []int{1, 2, 3, 4}, nil, []int{1, 2})
	k.there(t, 0, 3, 4)
	k.p.Touch(pages(3)[0])
	k.wants(1)
	k.run(t, 128, api.OK, []int{1}, nil, []int{4})
	k.there(t, 0, 3, 1)
}

func TestFull(t *testing.T) { // P21.1
	k := newKit(t, 1)
	k.wants(1, 2, 3)
	k.run(t, 2, api.OK, []int{1, 2}, nil, nil)
	k.there(t, 0)
	if k.q.Len() != 1 {
		t.Errorf("%d wait", k.q.Len())
	}
}

func TestBad(t *testing.T) { // P21.1, P21.2
	k := newKit(t, 20, 5, 6)
	k.breaks(t, 8)
	k.wants(5, 1, 8, 2, 6, 3)
	k.run(t, 4, api.OK, []int{1, 2}, []int{5, 8}, nil)
	k.there(t, 0, 1, 2)
	k.run(t, 4, api.OK, []int{3}, []int{6}, nil)
	k.there(t, 0, 1, 2, 3)
}

// breaks turns a bit of a page's sector: the one at which it can't be read any more.
func (k kit) breaks(t *testing.T, key int) {
	t.Helper()
	for i := 2; i < k.s.Used(); i++ {
		k.d.Corrupt(i, 17)
		if _, e := k.s.Read(pages(key)[0]); e == api.ErrBad {
			return
		}
		k.d.Corrupt(i, 17)
	}
	t.Fatalf("no sector of page %d was found", key)
}

func TestDown(t *testing.T) { // P21.1
	k := newKit(t, 3, 7)
	k.wants(1, 2)
	k.run(t, 2, api.OK, []int{1, 2}, nil, nil)
	k.d.Fuse(0, 0)
	k.d.Write(0, make([]byte, 32))
	k.wants(7, 3, 4)
	k.run(t, 5, api.ErrDown, nil, []int{7}, nil)
	k.there(t, 0, 1, 2)
	if k.q.Len() != 1 {
		t.Errorf("%d wait", k.q.Len())
	}
	k.d.Up()
	k.run(t, 5, api.OK, []int{4}, nil, []int{1})
	k.there(t, 0, 2, 4)
}

func TestRefuses(t *testing.T) { // P21.1
	k := newKit(t, 5)
	k.wants(1)
	for _, budget := range []int{-1, 129, math.MinInt, math.MaxInt} {
		k.run(t, budget, api.ErrArg, nil, nil, nil)
	}
	for i, c := range []kit{{p: k.p, t: k.t, q: k.q}, {s: k.s, t: k.t, q: k.q}, {s: k.s, p: k.p, q: k.q}, {s: k.s, p: k.p, t: k.t}} {
		if got, e := load.Run(c.s, c.p, c.t, c.q, 1); e != api.ErrArg || len(got.Loads) != 0 {
			t.Errorf("without part %d: %v, %d", i, got, e)
		}
	}
	if k.q.Len() != 1 {
		t.Errorf("what was refused has changed something: %d", k.q.Len())
	}
	k.there(t, 0)
}

func TestUnlikeDepths(t *testing.T) { // P21.1
	k := newKit(t, 5)
	shallow, _ := table.New(0)
	other, _ := queue.New(9, 3)
	other.Add(api.Page{L: 0, X: 7, Y: 7}, 4)
	other.Add(api.Page{L: 1}, 3)
	load.Run(k.s, k.p, shallow, other, 100)
	if other.Len() != 0 {
		t.Errorf("%d wait", other.Len())
	}
}
