package frame_test

import (
	"bytes"
	"math"
	"slices"
	"testing"

	"wainscot/api"
	"wainscot/cut"
	"wainscot/disk"
	"wainscot/draw"
	"wainscot/frame"
	"wainscot/load"
	"wainscot/mips"
	"wainscot/page"
	"wainscot/pool"
	"wainscot/queue"
	"wainscot/sample"
	"wainscot/store"
	"wainscot/table"
	"wainscot/vec"
)

const one = 65536

// numbers tells pseudo-random numbers, the same ones each time.
type numbers uint64

func (x *numbers) below(n int) int {
	*x ^= *x << 13
	*x ^= *x >> 7
	*x ^= *x << 17
	return int(uint64(*x) >> 1 % uint64(n))
}

func (x *numbers) colour() api.Colour {
	return api.Colour{byte(x.below(256)), byte(x.below(256)), byte(x.below(256)), byte(x.below(256))}
}

// made is a store with a texture, and the disk below it.
func made(t *testing.T, d int, wrap bool) (*store.Store, *disk.Disk, *mips.Pyramid) {
	t.Helper()
	x := numbers(d + 100)
	tex := api.Texture{D: d, Wrap: wrap}
	for range 16 << (2 * d) {
		tex.Texels = append(tex.Texels, x.colour())
	}
	m, _ := mips.Build(tex)
	dd, _ := disk.New(1000)
	s, _ := store.Format(dd, d, wrap)
	if e := s.Commit(cut.Changed(nil, m)); e != api.OK {
		t.Fatal(e)
	}
	return s, dd, m
}

func config(poolSize, queueSize, budget int) api.Config {
	return api.Config{W: 16, H: 16, Pool: poolSize, Queue: queueSize, Budget: budget, Disk: 1000, Back: api.Colour{1, 2, 3, 4}}
}

func newView(t *testing.T, c api.Config, s *store.Store) *frame.View {
	t.Helper()
	v, e := frame.New(c, s)
	if e != api.OK {
		t.Fatalf("New: %d", e)
	}
	return v
}

// part is a square of the screen, from texel to texel of depth 2, with that part of the texture, at so many texels a pixel.
func part(x, y, w, times int) []api.Tri {
	at := func(i, j int) api.Vertex {
		return api.Vertex{P: api.Vec{i*one/8 - one, one - j*one/8, 0, one}, U: i * one * times, V: j * one * times}
	}
	a, b, c, d := at(x, y), at(x+w, y), at(x+w, y+w), at(x, y+w)
	return []api.Tri{{A: a, B: b, C: c, Shader: api.Tex}, {A: a, B: c, C: d, Shader: api.Tex}}
}

func TestCheck(t *testing.T) { // P30.1
	limits := map[string][2]int{"W": {1, 32}, "H": {1, 32}, "Pool": {1, 128}, "Queue": {1, 128}, "Budget": {0, 128}, "Disk": {4, 2048}}
	s, _, _ := made(t, 0, false)
	for name, l := range limits {
		for n, want := range map[int]api.Errno{l[0]: api.OK, l[1]: api.OK, l[0] - 1: api.ErrArg, l[1] + 1: api.ErrArg, math.MinInt: api.ErrArg, math.MaxInt: api.ErrArg} {
			c := config(5, 5, 5)
			*map[string]*int{"W": &c.W, "H": &c.H, "Pool": &c.Pool, "Queue": &c.Queue, "Budget": &c.Budget, "Disk": &c.Disk}[name] = n
			v, e := frame.New(c, s)
			if frame.Check(c) != want || e != want || (v != nil) != (want == api.OK) {
				t.Errorf("%s of %d: %d, %d", name, n, frame.Check(c), e)
			}
		}
	}
}

func TestNew(t *testing.T) { // P30.1
	for d := range 4 {
		s, _, _ := made(t, d, false)
		if v := newView(t, config(5, 5, 5), s); !slices.Equal(v.There(), []api.Page{{L: d}}) {
			t.Errorf("There of a new one: %v", v.There())
		}
	}
	if v, e := frame.New(config(5, 5, 5), nil); v != nil || e != api.ErrArg {
		t.Errorf("New of nil: %d", e)
	}
	dd, _ := disk.New(50)
	empty, _ := store.Format(dd, 1, false)
	if v, e := frame.New(config(5, 5, 5), empty); v != nil || e != api.ErrNone {
		t.Errorf("New without a root: %d", e)
	}
	if v, e := frame.New(config(0, 5, 5), empty); v != nil || e != api.ErrArg {
		t.Errorf("New of a wrong head, without a root: %d", e)
	}
	s, broken, _ := made(t, 1, false)
	broken.Corrupt(2, 5)
	if v, e := frame.New(config(5, 5, 5), s); v != nil || e != api.ErrBad {
		t.Errorf("New with a root that is broken: %d", e)
	}
	s, down, _ := made(t, 1, false)
	down.Fuse(0, 0)
	down.Write(3, make([]byte, 32))
	if v, e := frame.New(config(5, 5, 5), s); v != nil || e != api.ErrDown {
		t.Errorf("New on a disk that is down: %d", e)
	}
}

func TestFirstFrames(t *testing.T) { // P30.2, P30.4
	s, _, m := made(t, 2, false)
	v := newView(t, config(6, 128, 2), s)
	scene := part(4, 4, 8, 1) // four pages of level 0
	out, e := v.Frame(vec.One(), scene)
	want := []api.Page{{X: 1, Y: 1}, {X: 2, Y: 1}}
	if e != api.OK || out.Code != api.OK || out.Full != 0 || out.Less != 64 || !slices.Equal(out.Loads, want) || len(out.Bad)+len(out.Gone) != 0 || out.Down {
		t.Errorf("the first: %v, %d", out, e)
	}
	if !slices.Equal(out.There, append([]api.Page{{L: 2}}, want...)) || !slices.Equal(v.There(), out.There) {
		t.Errorf("There behind the first: %v", out.There)
	}
	out, _ = v.Frame(vec.One(), scene)
	if out.Full != 32 || out.Less != 32 || !slices.Equal(out.Loads, []api.Page{{X: 1, Y: 2}, {X: 2, Y: 2}}) {
		t.Errorf("the second: %v", out)
	}
	out, _ = v.Frame(vec.One(), scene)
	if out.Full != 64 || out.Less != 0 || len(out.Loads) != 0 || len(out.There) != 5 || out.Image[16*4+4] != m.At(0, 4, 4) || out.Image[0] != (api.Colour{1, 2, 3, 4}) {
		t.Errorf("the third: %v", out)
	}
}

// world is a view by plain means, of the layers below.
type world struct {
	c api.Config
	s *store.Store
	p *pool.Pool
	t *table.Table
}

func (w *world) frame(m api.Mat, l []api.Tri) api.Out {
	f, e := draw.Render(sample.Source{Depth: w.s.Depth(), Wrap: w.s.Wrap(), Tri: w.c.Tri, Pool: w.p, Table: w.t}, w.c.W, w.c.H, w.c.Back, m, l)
	if e != api.OK {
		return api.Out{Code: e}
	}
	wanted := map[api.Page]bool{}
	for _, want := range f.Wants {
		wanted[want.Page] = true
	}
	for _, p := range f.Used {
		if !wanted[p] {
			w.p.Touch(p)
		}
	}
	for _, p := range f.Used {
		if wanted[p] {
			w.p.Touch(p)
		}
	}
	q, _ := queue.New(w.c.Queue, w.s.Depth())
	for _, want := range f.Wants {
		if !w.p.Has(want.Page) {
			q.Add(want.Page, want.N)
		}
	}
	done, e := load.Run(w.s, w.p, w.t, q, w.c.Budget)
	return api.Out{Code: e, Image: f.Image, Full: f.Full, Less: f.Less, Loads: done.Loads, Bad: done.Bad, Gone: done.Gone, There: slices.Collect(w.p.All())}
}

func same(a, b api.Out) bool {
	return a.Code == b.Code && a.Down == b.Down && a.Full == b.Full && a.Less == b.Less && slices.Equal(a.Image, b.Image) && slices.Equal(a.Loads, b.Loads) && slices.Equal(a.Bad, b.Bad) && slices.Equal(a.Gone, b.Gone) && slices.Equal(a.There, b.There)
}

func TestFrame(t *testing.T) { // P30.2, P30.4
	x := numbers(66)
	gone, bad := 0, 0
	for round := range 40 {
		s, d, _ := made(t, 1+round%3, round%2 == 0)
		c := config(1+x.below(9), 1+x.below(6), x.below(5))
		c.Tri = round%3 == 0
		v := newView(t, c, s)
		root, _ := s.Read(page.Root(s.Depth()))
		p, _ := pool.New(c.Pool, s.Depth(), root)
		tab, _ := table.New(s.Depth())
		w := &world{c, s, p, tab}
		if round%4 == 1 {
			for i := range 5 {
				d.Corrupt(20+7*i, 3)
			}
		}
		for range 12 {
			scene := append(part(x.below(10), x.below(10), 1+x.below(12), 1+x.below(3)), part(x.below(10), x.below(10), 1+x.below(12), 1)...)
			out, e := v.Frame(vec.One(), scene)
			if want := w.frame(vec.One(), scene); !same(out, want) || e != want.Code {
				t.Fatalf("round %d: %v, %d; want %v", round, out, e, want)
			}
			if len(out.There) > c.Pool || len(out.Loads)+len(out.Bad) > c.Budget || !slices.Equal(v.There(), out.There) {
				t.Fatalf("round %d: more than may be: %v", round, out)
			}
			gone, bad = gone+len(out.Gone), bad+len(out.Bad)
		}
	}
	if gone == 0 || bad == 0 {
		t.Errorf("the test saw %d gone, %d bad", gone, bad)
	}
}

// TestWantedOnesStayLongest has a pool of four: the page that is used in the place of others goes ahead of those that are wanted themselves.
func TestWantedOnesStayLongest(t *testing.T) { // P30.2
	s, _, _ := made(t, 2, false)
	v := newView(t, config(4, 128, 1), s)
	v.Frame(vec.One(), part(8, 8, 4, 1)) // {0, 2, 2} is read
	v.Frame(vec.One(), part(0, 0, 8, 2)) // level 1: {1, 0, 0} is read
	v.Frame(vec.One(), part(0, 0, 4, 1)) // {0, 0, 0} is read; {1, 0, 0} was used in its place
	// Used now: {1, 0, 0} in the place of {0, 1, 0}, and {0, 0, 0} and {0, 2, 2} themselves.
	scene := append(part(0, 0, 8, 1)[:1], part(8, 8, 4, 1)...)
	out, e := v.Frame(vec.One(), scene)
	if e != api.OK || !slices.Equal(out.Gone, []api.Page{{L: 1}}) || len(out.Loads) != 1 {
		t.Errorf("Gone: %v, Loads: %v", out.Gone, out.Loads)
	}
}

// TestWantedOnesStayLongestWhateverTheirKeys has a page that is used in the place of others behind one that is wanted itself, by Key.
func TestWantedOnesStayLongestWhateverTheirKeys(t *testing.T) { // P30.2
	s, _, _ := made(t, 2, false)
	v := newView(t, config(3, 128, 1), s)
	coarse := part(0, 0, 4, 2) // half of {1, 0, 0}'s texels to a pixel
	other := part(8, 0, 4, 1)  // texels of {0, 2, 0}, which is in {1, 1, 0}
	shifted := part(4, 0, 4, 2)
	v.Frame(vec.One(), shifted) // {1, 1, 0} is read
	v.Frame(vec.One(), coarse)  // {1, 0, 0} is read
	if want := []api.Page{{L: 2}, {L: 1}, {L: 1, X: 1}}; !slices.Equal(v.There(), want) {
		t.Fatalf("There: %v", v.There())
	}
	out, e := v.Frame(vec.One(), append(coarse, other...))
	if e != api.OK || !slices.Equal(out.Loads, []api.Page{{X: 2}}) || !slices.Equal(out.Gone, []api.Page{{L: 1, X: 1}}) {
		t.Errorf("Gone: %v, Loads: %v, %d full, %d less", out.Gone, out.Loads, out.Full, out.Less)
	}
}

func TestBudgetAndQueue(t *testing.T) { // P30.2
	s, _, _ := made(t, 2, false)
	for _, c := range [][3]int{{128, 128, 0}, {128, 3, 128}, {128, 128, 5}, {1, 128, 4}} {
		v := newView(t, config(c[0], c[1], c[2]), s)
		out, e := v.Frame(vec.One(), part(0, 0, 16, 1))
		if e != api.OK || len(out.Loads) != min(16, c[1], c[2]) || len(out.Gone) != 0 || len(out.There) != min(c[0], 1+len(out.Loads)) {
			t.Errorf("of %v: %v, %d", c, out.Loads, e)
		}
	}
}

func TestFrameRefuses(t *testing.T) { // P30.2
	s, d, _ := made(t, 2, false)
	v := newView(t, config(6, 128, 2), s)
	v.Frame(vec.One(), part(4, 4, 8, 1))
	before := v.There()
	wrong := vec.One()
	wrong[0] = 1<<20 + 1
	over, none := part(4, 4, 8, 1), part(4, 4, 8, 1)
	over[0].A.U = 1<<26 + 1
	none[1].Shader = 9
	for what, c := range map[string]struct {
		m    api.Mat
		l    []api.Tri
		want api.Errno
	}{"a wrong matrix": {wrong, over, api.ErrArg}, "beyond a limit": {vec.One(), over, api.ErrOver}, "no shader": {vec.One(), none, api.ErrArg}} {
		if out, e := v.Frame(c.m, c.l); e != c.want || !same(out, api.Out{}) || !slices.Equal(v.There(), before) {
			t.Errorf("%s: %v, %d", what, out, e)
		}
	}
	d.Fuse(0, 0)
	d.Write(5, make([]byte, 32))
	out, e := v.Frame(vec.One(), part(4, 4, 8, 1))
	if e != api.ErrDown || out.Code != api.ErrDown || out.Full != 32 || out.Less != 32 || len(out.Image) != 256 || len(out.Loads)+len(out.Bad) != 0 || !slices.Equal(out.There, before) {
		t.Errorf("on a disk that is down: %v, %d", out, e)
	}
}

func TestRenew(t *testing.T) { // P30.3
	s, _, m := made(t, 2, false)
	v := newView(t, config(3, 128, 2), s)
	scene := part(0, 0, 8, 1)
	v.Frame(vec.One(), scene) // the first two pages are read
	changed, _ := m.With(0, 0, 16, 16, slices.Repeat([]api.Colour{{9, 9, 9, 9}}, 256))
	items := cut.Changed(m, changed)
	v.Renew(append(items, api.Item{Page: api.Page{}, Data: []byte{1}}, api.Item{Page: api.Page{L: 8}, Data: items[0].Data}))
	for _, item := range items {
		clear(item.Data)
	}
	if want := []api.Page{{L: 2}, {}, {X: 1}}; !slices.Equal(v.There(), want) {
		t.Errorf("There: %v", v.There())
	}
	out, _ := v.Frame(vec.One(), scene)
	for _, i := range []int{0, 7, 16 * 3, 16 * 7, 16*7 + 7} {
		if out.Image[i] != (api.Colour{9, 9, 9, 9}) {
			t.Errorf("pixel %d: %v", i, out.Image[i])
		}
	}
	if !slices.Equal(out.Gone, []api.Page{{}, {X: 1}}) {
		t.Errorf("a Renew is a use: %v", out.Gone)
	}
	if b, e := s.Read(api.Page{}); e != api.OK || bytes.Equal(b, make([]byte, 144)) {
		t.Errorf("Renew wrote to the store: %d", e)
	}
}

func TestNil(t *testing.T) { // P30.3
	var v *frame.View
	out, e := v.Frame(vec.One(), nil)
	v.Renew([]api.Item{{}})
	if e != api.ErrArg || !same(out, api.Out{}) || len(v.There()) != 0 {
		t.Errorf("a nil View: %v, %d", out, e)
	}
}

func TestNewMemory(t *testing.T) { // P30.4
	s, _, _ := made(t, 1, false)
	v := newView(t, config(6, 128, 2), s)
	scene := part(0, 0, 8, 1)
	out, _ := v.Frame(vec.One(), scene)
	clear(out.There)
	clear(out.Loads)
	clear(v.There())
	if want := []api.Page{{L: 1}, {}, {X: 1}}; !slices.Equal(v.There(), want) {
		t.Errorf("There: %v", v.There())
	}
	if !slices.Equal(scene, part(0, 0, 8, 1)) {
		t.Error("what is handed in is changed")
	}
}
