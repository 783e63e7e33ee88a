package script_test

import (
	"bytes"
	"encoding/binary"
	"fmt"
	"math"
	"slices"
	"testing"

	"wainscot/api"
	"wainscot/hue"
	"wainscot/script"
	"wainscot/vec"
)

const one = 65536

// numbers tells pseudo-random numbers, the same ones each time.
type numbers uint64

func (x *numbers) below(n int) int {
	*x ^= *x << 13
	*x ^= *x >> 7
	*x ^= *x << 17
	return int(uint64(*x) >> 1 % uint64(n))
}

func (x *numbers) within(n int) int { return x.below(2*n+1) - n }

func (x *numbers) colours(n int) []api.Colour {
	var l []api.Colour
	for range n {
		l = append(l, api.Colour{byte(x.below(256)), byte(x.below(256)), byte(x.below(256)), byte(x.below(256))})
	}
	return l
}

func (x *numbers) tris(n int) []api.Tri {
	corner := func() api.Vertex {
		return api.Vertex{P: api.Vec{x.within(1 << 22), x.within(1 << 22), x.within(1 << 22), one}, U: x.within(1 << 26), V: x.within(1 << 26)}
	}
	var l []api.Tri
	for range n {
		l = append(l, api.Tri{A: corner(), B: corner(), C: corner(), Shader: 1 + x.below(4), Tint: x.colours(1)[0]})
	}
	return l
}

// step is one of a kind, with nothing in other fields.
func (x *numbers) step(kind, side, disk int) api.Step {
	p := api.Step{Kind: kind}
	switch kind {
	case api.Camera:
		for i := range p.M {
			p.M[i] = x.within(1 << 20)
		}
	case api.Scene:
		p.Tris = x.tris(x.below(5))
	case api.Update:
		p.X, p.Y = x.below(side), x.below(side)
		p.W, p.H = 1+x.below(side-p.X), 1+x.below(side-p.Y)
		p.Texels = x.colours(p.W * p.H)
	case api.Fuse:
		p.N, p.Mask = x.below(65536), x.below(1<<32)
	case api.Corrupt:
		p.X, p.N = x.below(disk), x.below(256)
	}
	return p
}

func (x *numbers) script(steps int) script.Script {
	d := x.below(4)
	s := script.Script{
		Config:  api.Config{W: 1 + x.below(32), H: 1 + x.below(32), Pool: 1 + x.below(128), Queue: 1 + x.below(128), Budget: x.below(129), Disk: 4 + x.below(2045), Tri: x.below(2) == 0, Back: x.colours(1)[0]},
		Texture: api.Texture{D: d, Wrap: x.below(2) == 0, Texels: x.colours(16 << (2 * d))},
	}
	for range steps {
		s.Steps = append(s.Steps, x.step(1+x.below(6), 4<<d, s.Config.Disk))
	}
	return s
}

// small is one with a texture of D 0.
func small(steps ...api.Step) script.Script {
	x := numbers(1)
	return script.Script{
		Config:  api.Config{W: 1, H: 2, Pool: 3, Queue: 4, Budget: 5, Disk: 0x0607, Tri: true, Back: api.Colour{8, 9, 10, 11}},
		Texture: api.Texture{Texels: x.colours(16)},
		Steps:   steps,
	}
}

// bytesOf is the document's words.
func bytesOf(s script.Script) []byte {
	c := s.Config
	flag := func(is bool) byte {
		if is {
			return 1
		}
		return 0
	}
	two := func(b []byte, n int) []byte { return binary.BigEndian.AppendUint16(b, uint16(n)) }
	four := func(b []byte, n int) []byte { return binary.BigEndian.AppendUint32(b, uint32(n)) }
	b := []byte{byte(c.W), byte(c.H), byte(c.Pool), byte(c.Queue), byte(c.Budget)}
	b = append(two(b, c.Disk), flag(c.Tri), c.Back[0], c.Back[1], c.Back[2], c.Back[3], byte(s.Texture.D), flag(s.Texture.Wrap))
	b = two(append(b, hue.Bytes(s.Texture.Texels)...), len(s.Steps))
	for _, p := range s.Steps {
		b = append(b, byte(p.Kind))
		switch p.Kind {
		case 2:
			for _, n := range p.M {
				b = four(b, n)
			}
		case 3:
			b = append(b, byte(len(p.Tris)))
			for _, t := range p.Tris {
				for _, v := range []api.Vertex{t.A, t.B, t.C} {
					b = four(four(four(four(four(b, v.P[0]), v.P[1]), v.P[2]), v.U), v.V)
				}
				b = append(append(b, byte(t.Shader)), t.Tint[:]...)
			}
		case 4:
			b = append(append(b, byte(p.X), byte(p.Y), byte(p.W), byte(p.H)), hue.Bytes(p.Texels)...)
		case 5:
			b = four(two(b, p.N), p.Mask)
		case 6:
			b = append(two(b, p.X), byte(p.N))
		}
	}
	return b
}

func same(a, b script.Script) bool {
	norm := func(s script.Script) string {
		for i := range s.Steps {
			if len(s.Steps[i].Tris) == 0 {
				s.Steps[i].Tris = nil
			}
		}
		return fmt.Sprint(s)
	}
	a.Steps, b.Steps = slices.Clone(a.Steps), slices.Clone(b.Steps)
	return norm(a) == norm(b)
}

func TestEncode(t *testing.T) { // P31.2, P31.3
	x := numbers(808)
	for round := range 120 {
		s := x.script(round % 13)
		b, e := script.Encode(s)
		if e != api.OK || !bytes.Equal(b, bytesOf(s)) {
			t.Fatalf("Encode(%v): %d", s, e)
		}
		got, e := script.Decode(b)
		if e != api.OK || !same(got, s) {
			t.Fatalf("Decode: %v, %d; want %v", got, e, s)
		}
	}
}

func TestExample(t *testing.T) { // P31.2
	b, e := script.Encode(small())
	if e != api.OK || len(b) != 80 || !bytes.Equal(b[:14], []byte{1, 2, 3, 4, 5, 6, 7, 1, 8, 9, 10, 11, 0, 0}) {
		t.Errorf("a texture of D 0, no steps: %v, %d", b, e)
	}
}

func TestOtherFieldsAreNotWritten(t *testing.T) { // P31.1, P31.2
	x := numbers(2)
	for kind := 1; kind <= 6; kind++ {
		want := x.step(kind, 4, 0x0607)
		p := api.Step{Kind: kind, M: api.Mat{1 << 40}, Tris: make([]api.Tri, 99), X: -7, Y: -8, W: -9, H: 999, Texels: x.colours(3), N: -5, Mask: -6}
		switch kind {
		case api.Camera:
			p.M = want.M
		case api.Scene:
			p.Tris = want.Tris
		case api.Update:
			p.X, p.Y, p.W, p.H, p.Texels = want.X, want.Y, want.W, want.H, want.Texels
		case api.Fuse:
			p.N, p.Mask = want.N, want.Mask
		case api.Corrupt:
			p.X, p.N = want.X, want.N
		}
		b, e := script.Encode(small(p))
		if e != api.OK || !bytes.Equal(b, bytesOf(small(want))) {
			t.Errorf("kind %d: %d", kind, e)
		}
		if got, e := script.Decode(b); e != api.OK || !same(got, small(want)) {
			t.Errorf("kind %d, read: %v, %d", kind, got, e)
		}
	}
}

// refused checks that a script is, and so.
func refused(t *testing.T, what string, s script.Script, want api.Errno) {
	t.Helper()
	b, e := script.Encode(s)
	if script.Check(s) != want || e != want || len(b) != 0 {
		t.Errorf("%s: %d, %d; want %d", what, script.Check(s), e, want)
	}
}

func TestCheckTheHead(t *testing.T) { // P31.1
	for i, n := range []int{0, 33, 0, 33, 0, 129, 0, 129, -1, 129, 3, 2049} {
		s := small()
		c := &s.Config
		*[]*int{&c.W, &c.H, &c.Pool, &c.Queue, &c.Budget, &c.Disk}[i/2] = n
		refused(t, fmt.Sprint("a head's field ", i/2, " of ", n), s, api.ErrArg)
	}
	s := small()
	s.Texture.Texels = s.Texture.Texels[1:]
	refused(t, "a wrong texture", s, api.ErrArg)
	s = small()
	s.Texture.D = 4
	refused(t, "a wrong depth", s, api.ErrArg)
	refused(t, "257 steps", small(slices.Repeat([]api.Step{{Kind: api.Frame}}, 257)...), api.ErrArg)
	if e := script.Check(small(slices.Repeat([]api.Step{{Kind: api.Frame}}, 256)...)); e != api.OK {
		t.Errorf("256 steps: %d", e)
	}
}

func TestCheckSteps(t *testing.T) { // P31.1
	x := numbers(3)
	good, wrong := vec.One(), vec.One()
	wrong[9] = 1<<20 + 1
	over, none := x.tris(2), x.tris(2)
	over[1].B.P[3] = 0
	none[1].Shader = 0
	four := x.colours(4)
	for i, c := range []struct {
		p    api.Step
		want api.Errno
	}{
		{api.Step{}, api.ErrArg}, {api.Step{Kind: 7}, api.ErrArg}, {api.Step{Kind: -1}, api.ErrArg}, {api.Step{Kind: math.MinInt}, api.ErrArg}, {api.Step{Kind: 257}, api.ErrArg},
		{api.Step{Kind: api.Frame}, api.OK},
		{api.Step{Kind: api.Camera}, api.OK}, {api.Step{Kind: api.Camera, M: good}, api.OK}, {api.Step{Kind: api.Camera, M: wrong}, api.ErrArg},
		{api.Step{Kind: api.Scene}, api.OK}, {api.Step{Kind: api.Scene, Tris: x.tris(64)}, api.OK}, {api.Step{Kind: api.Scene, Tris: x.tris(65)}, api.ErrArg},
		{api.Step{Kind: api.Scene, Tris: over}, api.ErrOver}, {api.Step{Kind: api.Scene, Tris: none}, api.ErrArg},
		{api.Step{Kind: api.Update, W: 2, H: 2, Texels: four}, api.OK}, {api.Step{Kind: api.Update, X: 2, Y: 2, W: 2, H: 2, Texels: four}, api.OK},
		{api.Step{Kind: api.Update, X: 3, Y: 2, W: 2, H: 2, Texels: four}, api.ErrArg}, {api.Step{Kind: api.Update, X: 2, Y: 3, W: 2, H: 2, Texels: four}, api.ErrArg},
		{api.Step{Kind: api.Update, X: -1, W: 2, H: 2, Texels: four}, api.ErrArg}, {api.Step{Kind: api.Update, Y: -1, W: 2, H: 2, Texels: four}, api.ErrArg},
		{api.Step{Kind: api.Update, W: 0, H: 2}, api.ErrArg}, {api.Step{Kind: api.Update, W: 2, H: 0}, api.ErrArg}, {api.Step{Kind: api.Update, W: -2, H: -2, Texels: four}, api.ErrArg},
		{api.Step{Kind: api.Update, W: 2, H: 2, Texels: four[:3]}, api.ErrArg}, {api.Step{Kind: api.Update, W: 1, H: 3, Texels: four}, api.ErrArg}, {api.Step{Kind: api.Update, W: 5, H: 1, Texels: x.colours(5)}, api.ErrArg},
		{api.Step{Kind: api.Update, X: 1, W: math.MaxInt, H: 1}, api.ErrArg}, {api.Step{Kind: api.Update, X: math.MaxInt, W: 1, H: 1, Texels: four[:1]}, api.ErrArg},
		{api.Step{Kind: api.Fuse}, api.OK}, {api.Step{Kind: api.Fuse, N: 65535, Mask: 1<<32 - 1}, api.OK}, {api.Step{Kind: api.Fuse, N: 65536}, api.ErrArg}, {api.Step{Kind: api.Fuse, N: -1}, api.ErrArg},
		{api.Step{Kind: api.Fuse, Mask: 1 << 32}, api.ErrArg}, {api.Step{Kind: api.Fuse, Mask: -1}, api.ErrArg},
		{api.Step{Kind: api.Corrupt}, api.OK}, {api.Step{Kind: api.Corrupt, X: 0x0606, N: 255}, api.OK}, {api.Step{Kind: api.Corrupt, X: 0x0607}, api.ErrArg}, {api.Step{Kind: api.Corrupt, X: -1}, api.ErrArg},
		{api.Step{Kind: api.Corrupt, N: 256}, api.ErrArg}, {api.Step{Kind: api.Corrupt, N: -1}, api.ErrArg},
	} {
		s := small(api.Step{Kind: api.Frame}, c.p)
		if c.want != api.OK {
			refused(t, fmt.Sprint("step ", i), s, c.want)
		} else if e := script.Check(s); e != api.OK {
			t.Errorf("step %d: %d", i, e)
		}
	}
	refused(t, "ErrOver ahead of ErrArg", small(api.Step{Kind: api.Scene, Tris: over}, api.Step{}), api.ErrOver)
	refused(t, "ErrArg ahead of ErrOver", small(api.Step{}, api.Step{Kind: api.Scene, Tris: over}), api.ErrArg)
	bad := small(api.Step{Kind: api.Scene, Tris: over})
	bad.Texture.D = 1
	refused(t, "the texture ahead of the steps", bad, api.ErrArg)
}

func TestTooManyBytes(t *testing.T) { // P31.2
	x := numbers(4)
	scene := api.Step{Kind: api.Scene, Tris: x.tris(64)} // 4162 bytes
	s := small(slices.Repeat([]api.Step{scene}, 15)...)
	rest := 65536 - 80 - 15*4162
	s.Steps = append(s.Steps, slices.Repeat([]api.Step{{Kind: api.Camera}}, rest/65)...)
	s.Steps = append(s.Steps, slices.Repeat([]api.Step{{Kind: api.Frame}}, rest%65)...)
	b, e := script.Encode(s)
	if e != api.OK || len(b) != 65536 {
		t.Fatalf("as many as may be: %d, %d", len(b), e)
	}
	if got, e := script.Decode(b); e != api.OK || !same(got, s) {
		t.Errorf("read: %d", e)
	}
	s.Steps = append(s.Steps, api.Step{Kind: api.Frame})
	if script.Check(s) != api.OK {
		t.Error("Check counts bytes")
	}
	if b, e := script.Encode(s); e != api.ErrArg || len(b) != 0 {
		t.Errorf("one more: %d", e)
	}
	if _, e := script.Decode(bytesOf(s)); e != api.ErrBad {
		t.Errorf("one more, read: %d", e)
	}
}

func TestDecodeRefuses(t *testing.T) { // P31.2
	x := numbers(5)
	var steps []api.Step
	for kind := 1; kind <= 6; kind++ {
		steps = append(steps, x.step(kind, 4, 0x0607))
	}
	good := bytesOf(small(steps...))
	if _, e := script.Decode(good); e != api.OK {
		t.Fatal(e)
	}
	is := func(what string, b []byte) {
		t.Helper()
		if s, e := script.Decode(b); e != api.ErrBad || !same(s, script.Script{}) {
			t.Errorf("%s: %v, %d", what, s, e)
		}
	}
	for n := range good {
		is(fmt.Sprint("cut at ", n), good[:n])
	}
	is("one byte more", append(slices.Clone(good), 0))
	set := func(at int, v byte) []byte {
		b := slices.Clone(good)
		b[at] = v
		return b
	}
	for what, b := range map[string][]byte{
		"no width": set(0, 0), "too wide": set(0, 33), "no height": set(1, 0), "no pool": set(2, 0), "too great a pool": set(2, 129), "no queue": set(3, 0), "too great a budget": set(4, 129),
		"too great a disk": set(5, 9), "a Tri of 2": set(7, 2), "a depth of 4": set(12, 4), "a depth of 255": set(12, 255), "another depth": set(12, 1), "a Wrap of 2": set(13, 2),
		"a step more": set(79, 7), "a step less": set(79, 5), "256 steps more": set(78, 1), "far more steps": set(78, 255), "kind 0": set(80, 0), "kind 7": set(80, 7), "a camera that may not be": set(82, 0x7F),
	} {
		is(what, b)
	}
	for _, p := range []api.Step{
		{Kind: api.Scene, Tris: []api.Tri{{Shader: 5}}}, {Kind: api.Scene, Tris: []api.Tri{{A: api.Vertex{U: 1 << 27}, Shader: 1}}}, {Kind: api.Scene, Tris: x.tris(65)},
		{Kind: api.Update, W: 0, H: 3}, {Kind: api.Update, X: 4, W: 1, H: 1, Texels: x.colours(1)}, {Kind: api.Corrupt, X: 0x0607},
	} {
		is(fmt.Sprint("kind ", p.Kind), bytesOf(small(p)))
	}
	for n := range 300 {
		b := make([]byte, n)
		for i := range b {
			b[i] = byte(x.below(256))
		}
		is("odd bytes", b)
	}
}

func TestDecodeOfAnything(t *testing.T) { // P31.2
	x := numbers(6)
	for range 3000 {
		b := bytesOf(x.script(4))
		for range 1 + x.below(3) {
			b[x.below(len(b))] ^= 1 << x.below(8)
		}
		s, e := script.Decode(b)
		if e == api.OK {
			if again, e := script.Encode(s); e != api.OK || !bytes.Equal(again, b) {
				t.Fatalf("Decode took what is no script: %v", b)
			}
		} else if e != api.ErrBad || !same(s, script.Script{}) {
			t.Fatalf("Decode: %d", e)
		}
	}
}

func TestNewMemory(t *testing.T) { // P31.3
	x := numbers(7)
	s := small(api.Step{Kind: api.Update, W: 2, H: 2, Texels: x.colours(4)}, api.Step{Kind: api.Scene, Tris: x.tris(2)})
	b, _ := script.Encode(s)
	before := slices.Clone(b)
	got, _ := script.Decode(b)
	if !bytes.Equal(b, before) {
		t.Error("what is handed in is changed")
	}
	clear(b)
	if again, _ := script.Encode(got); !bytes.Equal(again, before) {
		t.Error("Decode keeps what is handed in")
	}
	clear(got.Texture.Texels)
	if again, _ := script.Encode(s); !bytes.Equal(again, before) {
		t.Error("something is shared")
	}
}
