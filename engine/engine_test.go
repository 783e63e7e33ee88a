package engine_test

import (
	"fmt"
	"slices"
	"testing"

	"wainscot/api"
	"wainscot/carry"
	"wainscot/disk"
	"wainscot/engine"
	"wainscot/frame"
	"wainscot/mips"
	"wainscot/script"
	"wainscot/vec"
)

const one = 65536

// numbers tells pseudo-random numbers, the same ones each time.
type numbers uint64

func (x *numbers) below(n int) int {
	*x ^= *x << 13
	*x ^= *x >> 7
	*x ^= *x << 17
	return int(uint64(*x) >> 1 % uint64(n))
}

func (x *numbers) colours(n int) []api.Colour {
	var l []api.Colour
	for range n {
		l = append(l, api.Colour{byte(x.below(256)), byte(x.below(256)), byte(x.below(256)), byte(x.below(256))})
	}
	return l
}

// head is a script with a texture of depth 2, and no steps.
func head(sectors int) script.Script {
	x := numbers(50)
	return script.Script{
		Config:  api.Config{W: 16, H: 16, Pool: 6, Queue: 128, Budget: 2, Disk: sectors, Back: api.Colour{1, 2, 3, 4}},
		Texture: api.Texture{D: 2, Wrap: true, Texels: x.colours(256)},
	}
}

// part is a square of the screen, from texel to texel of depth 2, with that part of the texture.
func part(x, y, w int) []api.Tri {
	at := func(i, j int) api.Vertex {
		return api.Vertex{P: api.Vec{i*one/8 - one, one - j*one/8, 0, one}, U: i * one, V: j * one}
	}
	a, b, c, d := at(x, y), at(x+w, y), at(x+w, y+w), at(x, y+w)
	return []api.Tri{{A: a, B: b, C: c, Shader: api.Tex}, {A: a, B: c, C: d, Shader: api.Tex}}
}

func scene(x, y, w int) api.Step { return api.Step{Kind: api.Scene, Tris: part(x, y, w)} }

// update is a change of so many texels on a side, to colours by seed.
func update(x, y, w int, seed int) api.Step {
	n := numbers(seed + 1)
	return api.Step{Kind: api.Update, X: x, Y: y, W: w, H: w, Texels: n.colours(w * w)}
}

func pyramid(t *testing.T, tex api.Texture) *mips.Pyramid {
	t.Helper()
	m, e := mips.Build(tex)
	if e != api.OK {
		t.Fatal(e)
	}
	return m
}

// with is a texture behind an update.
func with(t *testing.T, tex api.Texture, p api.Step) api.Texture {
	t.Helper()
	m, e := pyramid(t, tex).With(p.X, p.Y, p.W, p.H, p.Texels)
	if e != api.OK {
		t.Fatal(e)
	}
	return m.Texture()
}

func newEngine(t *testing.T, s script.Script) *engine.Engine {
	t.Helper()
	e, c := engine.New(s)
	if c != api.OK {
		t.Fatalf("New: %d", c)
	}
	return e
}

func is(t *testing.T, what string, got, want any) {
	t.Helper()
	if fmt.Sprint(got) != fmt.Sprint(want) {
		t.Errorf("%s: %v; want %v", what, got, want)
	}
}

// does checks that a step tells just a code.
func does(t *testing.T, e *engine.Engine, p api.Step, code api.Errno) {
	t.Helper()
	is(t, fmt.Sprint("a step of kind ", p.Kind), e.Do(p), api.Out{Code: code})
}

// down checks that a step finds the disk down, and that it is up again, with the root alone.
func down(t *testing.T, e *engine.Engine, p api.Step) {
	t.Helper()
	is(t, "a step that finds the disk down", e.Do(p), api.Out{Code: api.ErrDown, Down: true})
	is(t, "There behind it", e.There(), []api.Page{{L: 2}})
}

func TestNew(t *testing.T) { // P32.1
	s := head(400)
	e := newEngine(t, s)
	is(t, "Texture", e.Texture(), s.Texture)
	is(t, "There", e.There(), []api.Page{{L: 2}})
	d, _ := disk.New(400)
	st, _ := carry.In(d, s.Texture)
	is(t, "Used", e.Used(), st.Used())
	out := e.Do(api.Step{Kind: api.Frame})
	is(t, "a frame of no scene", out, api.Out{Image: slices.Repeat([]api.Colour{{1, 2, 3, 4}}, 256), There: []api.Page{{L: 2}}})
}

func TestNewRefuses(t *testing.T) { // P32.1
	for what, c := range map[string]struct {
		change func(*script.Script)
		want   api.Errno
	}{
		"a wrong head":        {func(s *script.Script) { s.Config.W = 33 }, api.ErrArg},
		"a wrong texture":     {func(s *script.Script) { s.Texture.D = 1 }, api.ErrArg},
		"a wrong step":        {func(s *script.Script) { s.Steps = []api.Step{{Kind: 9}} }, api.ErrArg},
		"a step with too far": {func(s *script.Script) { s.Steps = []api.Step{{Kind: api.Scene, Tris: []api.Tri{{Shader: 1}}}} }, api.ErrOver},
		"too small a disk":    {func(s *script.Script) { s.Config.Disk = 60 }, api.ErrFull},
	} {
		s := head(400)
		c.change(&s)
		e, code := engine.New(s)
		if e != nil || code != c.want {
			t.Errorf("%s: %d", what, code)
		}
		for range engine.Steps(s) {
			t.Errorf("%s has steps", what)
		}
		b, code := script.Encode(s)
		if code != api.OK {
			continue
		}
		if outs, code := engine.Run(b); len(outs) != 0 || code != c.want {
			t.Errorf("%s, as bytes: %d", what, code)
		}
	}
}

func TestFrameCameraScene(t *testing.T) { // P32.2
	s := head(400)
	e := newEngine(t, s)
	d, _ := disk.New(400)
	st, _ := carry.In(d, s.Texture)
	v, _ := frame.New(s.Config, st)
	half, _ := vec.Stretch(one/2, one/2, one)
	p := scene(4, 4, 8)
	does(t, e, p, api.OK)
	clear(p.Tris)
	for range 4 {
		want, _ := v.Frame(vec.One(), part(4, 4, 8))
		is(t, "a frame", e.Do(api.Step{Kind: api.Frame}), want)
		is(t, "There", e.There(), want.There)
	}
	does(t, e, api.Step{Kind: api.Camera, M: half}, api.OK)
	want, _ := v.Frame(half, part(4, 4, 8))
	is(t, "a frame by another camera", e.Do(api.Step{Kind: api.Frame}), want)
	does(t, e, scene(0, 0, 2), api.OK)
	want, _ = v.Frame(half, part(0, 0, 2))
	is(t, "a frame of another scene", e.Do(api.Step{Kind: api.Frame}), want)
	does(t, e, api.Step{Kind: api.Scene}, api.OK)
	want, _ = v.Frame(half, nil)
	is(t, "a frame of no scene", e.Do(api.Step{Kind: api.Frame}), want)
}

func TestARefusedStepDoesNothing(t *testing.T) { // P32.2
	e := newEngine(t, head(400))
	does(t, e, scene(4, 4, 8), api.OK)
	before := e.Texture()
	wrong := vec.One()
	wrong[0] = 1<<20 + 1
	far := part(4, 4, 8)
	far[0].B.U = 1<<26 + 1
	for _, c := range []struct {
		p    api.Step
		want api.Errno
	}{
		{api.Step{}, api.ErrArg}, {api.Step{Kind: 7}, api.ErrArg}, {api.Step{Kind: api.Camera, M: wrong}, api.ErrArg},
		{api.Step{Kind: api.Scene, Tris: far}, api.ErrOver}, {api.Step{Kind: api.Scene, Tris: make([]api.Tri, 65)}, api.ErrArg},
		{api.Step{Kind: api.Update, X: 16, W: 1, H: 1, Texels: make([]api.Colour, 1)}, api.ErrArg}, {api.Step{Kind: api.Update}, api.ErrArg},
		{api.Step{Kind: api.Fuse, N: 65536}, api.ErrArg}, {api.Step{Kind: api.Corrupt, X: 400}, api.ErrArg}, {api.Step{Kind: api.Corrupt, N: 256}, api.ErrArg},
	} {
		does(t, e, c.p, c.want)
	}
	is(t, "Texture", e.Texture(), before)
	if out := e.Do(api.Step{Kind: api.Frame}); out.Less != 64 {
		t.Errorf("the scene is another one: %v", out)
	}
}

func TestUpdate(t *testing.T) { // P32.2, P32.3
	s := head(600)
	e := newEngine(t, s)
	does(t, e, scene(0, 0, 8), api.OK)
	for range 3 {
		e.Do(api.Step{Kind: api.Frame})
	}
	there := e.There()
	p := update(1, 1, 6, 4)
	texels := slices.Clone(p.Texels)
	does(t, e, p, api.OK)
	clear(p.Texels)
	p.Texels = texels
	want := with(t, s.Texture, p)
	is(t, "Texture", e.Texture(), want)
	is(t, "There", e.There(), there)
	out := e.Do(api.Step{Kind: api.Frame})
	if out.Less != 0 || out.Full != 64 {
		t.Errorf("%d full, %d less", out.Full, out.Less)
	}
	for i := range 64 {
		if got, want := out.Image[16*(i/8)+i%8], want.Texels[16*(i/8)+i%8]; got != want {
			t.Errorf("pixel %d: %v; want %v", i, got, want)
		}
	}
	used := e.Used()
	does(t, e, p, api.OK) // nothing changes
	is(t, "Used behind nothing", e.Used(), used)
}

func TestUpdateFull(t *testing.T) { // P32.2
	s := head(400)
	d, _ := disk.New(400)
	st, _ := carry.In(d, s.Texture)
	s.Config.Disk = st.Used() + 12
	e := newEngine(t, s)
	does(t, e, scene(0, 0, 8), api.OK)
	e.Do(api.Step{Kind: api.Frame})
	there, used := e.There(), e.Used()
	does(t, e, update(0, 0, 16, 5), api.ErrFull)
	is(t, "Texture", e.Texture(), s.Texture)
	is(t, "There", e.There(), there)
	is(t, "Used", e.Used(), used)
	out := e.Do(api.Step{Kind: api.Frame})
	if out.Image[0] != s.Texture.Texels[0] {
		t.Errorf("the frame shows %v", out.Image[0])
	}
}

// writes is how many writes an update has, behind New.
func writes(t *testing.T, s script.Script, p api.Step) int {
	t.Helper()
	d, _ := disk.New(s.Config.Disk)
	st, c := carry.In(d, s.Texture)
	if c != api.OK {
		t.Fatal(c)
	}
	before := d.Writes()
	if _, c := carry.Update(st, pyramid(t, s.Texture), pyramid(t, with(t, s.Texture, p))); c != api.OK {
		t.Fatal(c)
	}
	return d.Writes() - before
}

func TestOffAtAnyWrite(t *testing.T) { // P32.2
	s := head(500)
	p := update(3, 3, 9, 6)
	all := writes(t, s, p)
	for _, mask := range []int{0, 1, 0x55555555, 1<<32 - 1} {
		for n := 0; n <= all; n++ {
			e := newEngine(t, s)
			does(t, e, scene(0, 0, 8), api.OK)
			e.Do(api.Step{Kind: api.Frame})
			used := e.Used()
			does(t, e, api.Step{Kind: api.Fuse, N: n, Mask: mask}, api.OK)
			if n == all { // the fuse waits for one more
				does(t, e, p, api.OK)
				is(t, "Texture", e.Texture(), with(t, s.Texture, p))
				down(t, e, update(0, 0, 1, 9))
				is(t, "Texture", e.Texture(), with(t, s.Texture, p))
				continue
			}
			down(t, e, p)
			is(t, "Texture", e.Texture(), s.Texture)
			is(t, "Used", e.Used(), used)
			out := e.Do(api.Step{Kind: api.Frame})
			is(t, "a frame behind it", []any{out.Code, out.Down, out.Full, out.Less, out.Loads}, []any{0, false, 0, 64, []api.Page{{}, {X: 1}}})
			does(t, e, p, api.OK)
			is(t, "Texture at the second try", e.Texture(), with(t, s.Texture, p))
		}
	}
}

func TestCorrupt(t *testing.T) { // P32.2
	s := head(400)
	e := newEngine(t, s)
	does(t, e, scene(0, 0, 4), api.OK)
	m := pyramid(t, s.Texture)
	d, _ := disk.New(400)
	st, _ := carry.In(d, s.Texture)
	sector := 0
	for i := 2; sector == 0; i++ { // the first page of level 0 stands there
		d.Corrupt(i, 9)
		if _, c := st.Read(api.Page{}); c == api.ErrBad {
			sector = i
		}
		d.Corrupt(i, 9)
	}
	does(t, e, api.Step{Kind: api.Corrupt, X: sector, N: 9}, api.OK)
	for range 2 {
		out := e.Do(api.Step{Kind: api.Frame})
		is(t, "a page that can't be read", []any{out.Bad, out.Loads, out.Full, out.Less}, []any{[]api.Page{{}}, []api.Page{}, 0, 16})
	}
	does(t, e, api.Step{Kind: api.Corrupt, X: sector, N: 9}, api.OK)
	out := e.Do(api.Step{Kind: api.Frame})
	is(t, "mended", out.Loads, []api.Page{{}})
	if out = e.Do(api.Step{Kind: api.Frame}); out.Image[0] != m.At(0, 0, 0) || out.Full != 16 {
		t.Errorf("mended: %v", out.Image[0])
	}
}

// lost checks an engine that is, behind the step that lost it.
func lost(t *testing.T, e *engine.Engine, code api.Errno, tex api.Texture) {
	t.Helper()
	for _, p := range []api.Step{{Kind: api.Frame}, {Kind: api.Camera}, scene(0, 0, 4), update(0, 0, 4, 1), {Kind: api.Fuse}, {Kind: 99}, {}} {
		does(t, e, p, code)
	}
	is(t, "Texture of a lost one", e.Texture(), tex)
	is(t, "There of a lost one", e.There(), []api.Page{})
	is(t, "Used of a lost one", e.Used(), 0)
}

func TestLost(t *testing.T) { // P32.2, P32.3
	s := head(400)
	for what, steps := range map[string][]api.Step{
		"both heads":          {{Kind: api.Corrupt, X: 0, N: 5}, {Kind: api.Corrupt, X: 1, N: 5}},
		"the newer head":      {{Kind: api.Corrupt, X: 0, N: 5}},
		"the root":            {{Kind: api.Corrupt, X: 2, N: 5}},
		"the newer of Gen 3":  {update(0, 0, 16, 3), {Kind: api.Corrupt, X: 1, N: 200}},
		"the root and a head": {{Kind: api.Corrupt, X: 2, N: 5}, {Kind: api.Corrupt, X: 1, N: 5}},
	} {
		e := newEngine(t, s)
		tex := s.Texture
		for _, p := range steps {
			does(t, e, p, api.OK)
			if p.Kind == api.Update {
				tex = with(t, tex, p)
			}
		}
		does(t, e, api.Step{Kind: api.Fuse, N: 1, Mask: 0}, api.OK)
		is(t, what, e.Do(update(0, 0, 2, 8)), api.Out{Code: api.ErrBad, Down: true})
		lost(t, e, api.ErrBad, tex)
	}
}

func TestNotLost(t *testing.T) { // P32.2
	s := head(400)
	e := newEngine(t, s)
	does(t, e, api.Step{Kind: api.Corrupt, X: 1, N: 5}, api.OK) // the elder head
	does(t, e, api.Step{Kind: api.Fuse, N: 0, Mask: 0}, api.OK)
	down(t, e, update(0, 0, 2, 8))
	does(t, e, update(0, 0, 2, 8), api.OK)
	is(t, "Texture", e.Texture(), with(t, s.Texture, update(0, 0, 2, 8)))
}

func TestFuseWaitsForWrites(t *testing.T) { // P32.2
	e := newEngine(t, head(400))
	does(t, e, scene(0, 0, 8), api.OK)
	does(t, e, api.Step{Kind: api.Fuse, N: 0, Mask: 0}, api.OK)
	for range 5 {
		if out := e.Do(api.Step{Kind: api.Frame}); out.Down || out.Code != api.OK {
			t.Errorf("a frame writes: %v", out)
		}
	}
	down(t, e, update(0, 0, 2, 8))
}

// long is a script with a bit of all.
func long() script.Script {
	s := head(500)
	f := api.Step{Kind: api.Frame}
	s.Steps = []api.Step{f, scene(0, 0, 8), f, f, update(2, 2, 5, 1), f, {Kind: api.Fuse, N: 4, Mask: 5}, update(0, 0, 9, 2), f, f, update(0, 0, 9, 3), f, {Kind: api.Corrupt, X: 30, N: 1}, f}
	return s
}

func TestStepsAndRun(t *testing.T) { // P32.3
	s := long()
	e := newEngine(t, s)
	var want []api.Out
	for _, p := range s.Steps {
		want = append(want, e.Do(p))
	}
	steps := engine.Steps(s)
	b, c := script.Encode(s)
	if c != api.OK {
		t.Fatal(c)
	}
	clear(s.Texture.Texels) // Steps does not keep what is handed in
	for i := range s.Steps {
		clear(s.Steps[i].Tris)
		clear(s.Steps[i].Texels)
	}
	clear(s.Steps)
	for range 2 {
		at := 0
		for i, out := range steps {
			is(t, "a step's place", i, at)
			is(t, fmt.Sprint("step ", i), out, want[i])
			at++
		}
		is(t, "how many steps", at, len(want))
	}
	outs, c := engine.Run(b)
	is(t, "Run", []any{outs, c}, []any{want, 0})
	n := 0
	for range steps {
		n++
		if n == 5 {
			break
		}
	}
	is(t, "as far as one likes", n, 5)
}

func TestRunRefuses(t *testing.T) { // P32.3
	good, _ := script.Encode(head(400))
	for what, b := range map[string][]byte{"no bytes": nil, "too few": good[:len(good)-1], "too many": append(slices.Clone(good), 0), "noughts": make([]byte, 80)} {
		if outs, c := engine.Run(b); len(outs) != 0 || c != api.ErrBad {
			t.Errorf("%s: %d", what, c)
		}
	}
	if outs, c := engine.Run(good); len(outs) != 0 || c != api.OK {
		t.Errorf("no steps: %d", c)
	}
}

func TestNil(t *testing.T) { // P32.3
	var e *engine.Engine
	for _, p := range []api.Step{{}, {Kind: api.Frame}, {Kind: api.Camera}} {
		does(t, e, p, api.ErrArg)
	}
	is(t, "a nil Engine", []any{e.Texture(), e.There(), e.Used()}, []any{api.Texture{}, []api.Page{}, 0})
}

func TestNewMemory(t *testing.T) { // P32.4
	s := head(400)
	e := newEngine(t, s)
	clear(e.Texture().Texels)
	clear(e.There())
	clear(s.Texture.Texels)
	is(t, "Texture", e.Texture(), head(400).Texture)
	is(t, "There", e.There(), []api.Page{{L: 2}})
	does(t, e, scene(0, 0, 8), api.OK)
	first := e.Do(api.Step{Kind: api.Frame})
	clear(first.There)
	clear(first.Loads)
	clear(first.Image)
	is(t, "There behind a frame", e.There(), []api.Page{{L: 2}, {}, {X: 1}})
}

func TestExamples(t *testing.T) { // DOC.md: a pool of one place; a still scene
	s := head(400)
	s.Config.Pool = 1
	e := newEngine(t, s)
	does(t, e, scene(4, 4, 8), api.OK)
	first := e.Do(api.Step{Kind: api.Frame})
	for range 3 {
		out := e.Do(api.Step{Kind: api.Frame})
		is(t, "a pool of one place", []any{out.Image, out.There, out.Less}, []any{first.Image, []api.Page{{L: 2}}, 64})
	}
	e = newEngine(t, head(400))
	scene5 := append(part(0, 0, 8), part(8, 8, 4)...) // five pages are wanted
	does(t, e, api.Step{Kind: api.Scene, Tris: scene5}, api.OK)
	for _, loads := range []int{2, 2, 1} {
		out := e.Do(api.Step{Kind: api.Frame})
		is(t, "what a still scene loads", len(out.Loads), loads)
	}
	sharp := e.Do(api.Step{Kind: api.Frame})
	is(t, "a still scene behind three frames", []any{sharp.Less, sharp.Loads}, []any{0, []api.Page{}})
	is(t, "a still scene from then on", e.Do(api.Step{Kind: api.Frame}), sharp)
}
