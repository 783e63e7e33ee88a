package script

import (
	"bytes"

	"wainscot/api"
	"wainscot/hue"
	"wainscot/octets"
)

// colourSize is how many bytes a colour has.
const colourSize = len(api.Colour{})

// Encode writes one.
func Encode(s Script) ([]byte, api.Errno) {
	if e := Check(s); e != api.OK {
		return nil, e
	}
	b := putConfig(nil, s.Config)
	b = octets.Put(b, s.Texture.D, 1)
	b = putBool(b, s.Texture.Wrap)
	b = append(b, hue.Bytes(s.Texture.Texels)...)
	b = octets.Put(b, len(s.Steps), 2)
	for _, p := range s.Steps {
		b = putStep(b, p)
	}
	if len(b) > api.MaxBytes {
		return nil, api.ErrArg
	}
	return b, api.OK
}

// Decode reads one. What it reads is written again: only so all bytes are known to be right, and none to be left.
func Decode(b []byte) (Script, api.Errno) {
	r := &reader{bytes: b}
	s := Script{Config: r.config()}
	s.Texture = r.texture()
	for range r.number(2) {
		if r.short {
			break
		}
		s.Steps = append(s.Steps, r.step())
	}
	if r.short {
		return Script{}, api.ErrBad
	}
	again, e := Encode(s)
	if e != api.OK || !bytes.Equal(again, b) {
		return Script{}, api.ErrBad
	}
	return s, api.OK
}

func putConfig(b []byte, c api.Config) []byte {
	for _, n := range []int{c.W, c.H, c.Pool, c.Queue, c.Budget} {
		b = octets.Put(b, n, 1)
	}
	b = octets.Put(b, c.Disk, 2)
	b = putBool(b, c.Tri)
	return append(b, c.Back[:]...)
}

func putBool(b []byte, is bool) []byte {
	if is {
		return append(b, 1)
	}
	return append(b, 0)
}

func putStep(b []byte, p api.Step) []byte {
	b = octets.Put(b, p.Kind, 1)
	switch p.Kind {
	case api.Camera:
		for _, c := range p.M {
			b = octets.Put(b, c, 4)
		}
	case api.Scene:
		b = octets.Put(b, len(p.Tris), 1)
		for _, t := range p.Tris {
			b = putTri(b, t)
		}
	case api.Update:
		for _, n := range []int{p.X, p.Y, p.W, p.H} {
			b = octets.Put(b, n, 1)
		}
		b = append(b, hue.Bytes(p.Texels)...)
	case api.Fuse:
		b = octets.Put(b, p.N, 2)
		b = octets.Put(b, p.Mask, 4)
	case api.Corrupt:
		b = octets.Put(b, p.X, 2)
		b = octets.Put(b, p.N, 1)
	}
	return b
}

func putTri(b []byte, t api.Tri) []byte {
	for _, v := range []api.Vertex{t.A, t.B, t.C} {
		for _, n := range []int{v.P[0], v.P[1], v.P[2], v.U, v.V} {
			b = octets.Put(b, n, 4)
		}
	}
	b = octets.Put(b, t.Shader, 1)
	return append(b, t.Tint[:]...)
}

// reader takes bytes from the first one on.
type reader struct {
	bytes []byte
	short bool // there were too few: what it told since is nothing
}

// take takes so many.
func (r *reader) take(n int) []byte {
	if r.short || n < 0 || n > len(r.bytes) {
		r.short = true
		return nil
	}
	b := r.bytes[:n]
	r.bytes = r.bytes[n:]
	return b
}

// number takes one of so many bytes.
func (r *reader) number(size int) int { return octets.Get(r.take(size)) }

// signed takes one that can be below 0.
func (r *reader) signed() int { return int(int32(uint32(r.number(4)))) }

func (r *reader) colours(n int) []api.Colour {
	l, _ := hue.From(r.take(colourSize * n))
	return l
}

func (r *reader) colour() api.Colour {
	var c api.Colour
	copy(c[:], r.take(colourSize))
	return c
}

func (r *reader) config() api.Config {
	var c api.Config
	c.W = r.number(1)
	c.H = r.number(1)
	c.Pool = r.number(1)
	c.Queue = r.number(1)
	c.Budget = r.number(1)
	c.Disk = r.number(2)
	c.Tri = r.number(1) == 1
	c.Back = r.colour()
	return c
}

func (r *reader) texture() api.Texture {
	t := api.Texture{D: r.number(1)}
	t.Wrap = r.number(1) == 1
	if t.D > api.MaxDepth {
		r.short = true
		return t
	}
	side := api.Side << t.D
	t.Texels = r.colours(side * side)
	return t
}

func (r *reader) step() api.Step {
	p := api.Step{Kind: r.number(1)}
	switch p.Kind {
	case api.Camera:
		for i := range p.M {
			p.M[i] = r.signed()
		}
	case api.Scene:
		for range r.number(1) {
			p.Tris = append(p.Tris, r.tri())
		}
	case api.Update:
		p.X = r.number(1)
		p.Y = r.number(1)
		p.W = r.number(1)
		p.H = r.number(1)
		p.Texels = r.colours(p.W * p.H)
	case api.Fuse:
		p.N = r.number(2)
		p.Mask = r.number(4)
	case api.Corrupt:
		p.X = r.number(2)
		p.N = r.number(1)
	}
	return p
}

func (r *reader) tri() api.Tri {
	var t api.Tri
	t.A = r.vertex()
	t.B = r.vertex()
	t.C = r.vertex()
	t.Shader = r.number(1)
	t.Tint = r.colour()
	return t
}

func (r *reader) vertex() api.Vertex {
	v := api.Vertex{P: api.Vec{3: api.One}}
	for i := range 3 {
		v.P[i] = r.signed()
	}
	v.U = r.signed()
	v.V = r.signed()
	return v
}
