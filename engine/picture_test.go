package engine_test

import (
	"slices"
	"testing"

	"wainscot/api"
	"wainscot/engine"
	"wainscot/ideal"
	"wainscot/script"
	"wainscot/vec"
)

// world is what a test knows of an engine: its steps so far, by plain means.
type world struct {
	x       numbers
	s       script.Script
	e       *engine.Engine
	camera  api.Mat
	scene   []api.Tri
	turned  int
	frames  int
	downs   int
	updates int
	bad     int
}

func newWorld(t *testing.T, seed int) *world {
	t.Helper()
	w := &world{x: numbers(seed*7919 + 1), camera: vec.One()}
	d := w.x.below(4)
	w.s = script.Script{
		Config:  api.Config{W: 1 + w.x.below(32), H: 1 + w.x.below(32), Pool: 1 + w.x.below(12), Queue: 1 + w.x.below(12), Budget: w.x.below(5), Disk: []int{100, 200, 600, 1500}[d], Tri: w.x.below(2) == 0},
		Texture: api.Texture{D: d, Wrap: w.x.below(2) == 0, Texels: w.x.colours(16 << (2 * d))},
	}
	w.e = newEngine(t, w.s)
	return w
}

func (w *world) within(n int) int { return w.x.below(2*n+1) - n }

// triangles is some that can be seen.
func (w *world) triangles() []api.Tri {
	corner := func() api.Vertex {
		return api.Vertex{P: api.Vec{w.within(2 * one), w.within(2 * one), w.within(one), one}, U: w.within(40 * one), V: w.within(40 * one)}
	}
	var l []api.Tri
	for range 1 + w.x.below(5) {
		l = append(l, api.Tri{A: corner(), B: corner(), C: corner(), Shader: 1 + w.x.below(4), Tint: w.x.colours(1)[0]})
	}
	return l
}

// step is the next one: of all kinds, but that no more than three bits are turned in all.
func (w *world) step() api.Step {
	switch w.x.below(8) {
	case 0:
		m := vec.One()
		for i := range m {
			m[i] += w.within(one / 3)
		}
		return api.Step{Kind: api.Camera, M: m}
	case 1:
		return api.Step{Kind: api.Scene, Tris: w.triangles()}
	case 2:
		side := 4 << w.s.Texture.D
		p := api.Step{Kind: api.Update, X: w.x.below(side), Y: w.x.below(side)}
		p.W, p.H = 1+w.x.below(side-p.X), 1+w.x.below(side-p.Y)
		p.Texels = w.x.colours(p.W * p.H)
		return p
	case 3:
		return api.Step{Kind: api.Fuse, N: w.x.below(60), Mask: w.x.below(1 << 32)}
	case 4:
		if w.turned < 3 {
			w.turned++
			return api.Step{Kind: api.Corrupt, X: 2 + w.x.below(w.s.Config.Disk-2), N: w.x.below(256)}
		}
	}
	return api.Step{Kind: api.Frame}
}

// do does a step, and holds what it tells against the plain renderer.
func (w *world) do(t *testing.T, p api.Step) api.Out {
	t.Helper()
	there, tex := w.e.There(), w.e.Texture()
	out := w.e.Do(p)
	switch p.Kind {
	case api.Camera:
		w.camera = p.M
	case api.Scene:
		w.scene = p.Tris
	case api.Update:
		w.updates++
		want := tex
		if out.Code == api.OK {
			want = with(t, tex, p)
		}
		is(t, "Texture behind an update", w.e.Texture(), want)
	case api.Frame:
		w.frames++
		c := w.s.Config
		want, e := ideal.Img(tex, c.Tri, c.W, c.H, c.Back, w.camera, w.scene, there)
		if e != api.OK || !slices.Equal(out.Image, want.Image) || out.Full != want.Full || out.Less != want.Less || out.Code != api.OK {
			t.Fatalf("a frame is not what the plain renderer draws: %d, %d of %d", out.Code, out.Full, want.Full)
		}
		if len(out.There) > c.Pool || len(out.Loads)+len(out.Bad) > c.Budget || out.There[0] != (api.Page{L: w.s.Texture.D}) || !slices.Equal(out.There, w.e.There()) {
			t.Fatalf("a frame has more than may be: %v", out)
		}
		w.bad += len(out.Bad)
	}
	if out.Down {
		w.downs++
	}
	return out
}

func TestEachFrameIsThePlainRenderers(t *testing.T) { // P32.4, W6
	downs, updates, bad, lost := 0, 0, 0, 0
	for seed := range 60 {
		w := newWorld(t, seed)
		for range 40 {
			if out := w.do(t, w.step()); out.Down && len(w.e.There()) == 0 {
				lost++ // a root that is broken: nothing is drawn any more
				break
			}
		}
		downs, updates, bad = downs+w.downs, updates+w.updates, bad+w.bad
	}
	if downs == 0 || updates == 0 || bad == 0 || lost > 10 {
		t.Errorf("the test saw %d downs, %d updates, %d bad, %d lost", downs, updates, bad, lost)
	}
}

func TestAStillSceneComesToBeFull(t *testing.T) { // W6
	for seed := range 20 {
		w := newWorld(t, seed)
		w.s.Config.Pool, w.s.Config.Queue, w.s.Config.Budget = 128, 128, 3
		w.e = newEngine(t, w.s)
		w.do(t, api.Step{Kind: api.Scene, Tris: w.triangles()})
		for range 40 {
			w.do(t, api.Step{Kind: api.Frame})
		}
		c := w.s.Config
		want, _ := ideal.Img(w.s.Texture, c.Tri, c.W, c.H, c.Back, w.camera, w.scene, ideal.All(w.s.Texture.D))
		out := w.do(t, api.Step{Kind: api.Frame})
		if !slices.Equal(out.Image, want.Image) || out.Less != 0 || len(out.Loads) != 0 {
			t.Errorf("seed %d: %d less, %v", seed, out.Less, out.Loads)
		}
	}
}
