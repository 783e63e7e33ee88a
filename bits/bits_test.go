package bits_test

import (
	"bytes"
	"math"
	"testing"

	"wainscot/api"
	"wainscot/bits"
)

// part is a number, and how many bits it has.
type part struct{ v, n int }

// parts is a row of such, of all widths.
func parts(count int) []part {
	var l []part
	x := uint64(count)*2862933555777941757 + 3037000493
	for range count {
		x ^= x << 13
		x ^= x >> 7
		x ^= x << 17
		n := int(x>>40) % 33
		l = append(l, part{int(x & (1<<n - 1)), n})
	}
	return l
}

// text is the bits of a row, as noughts and ones.
func text(l []part) []byte {
	var bits []byte
	for _, p := range l {
		for i := p.n - 1; i >= 0; i-- {
			bits = append(bits, byte(p.v>>i&1))
		}
	}
	return bits
}

// packed is such a text, eight to a byte, the high one first.
func packed(bits []byte) []byte {
	b := make([]byte, (len(bits)+7)/8)
	for i, bit := range bits {
		if bit == 1 {
			b[i/8] += 128 >> (i % 8)
		}
	}
	return b
}

func TestPut(t *testing.T) { // P5.1
	var w bits.Writer
	if w.Len() != 0 || len(w.Bytes()) != 0 {
		t.Error("a zero Writer is not empty")
	}
	if e := w.Put(5, 3); e != api.OK || w.Len() != 3 || !bytes.Equal(w.Bytes(), []byte{0xA0}) {
		t.Errorf("the document's example: %d, %d, %X", e, w.Len(), w.Bytes())
	}
	for count := range 60 {
		var w bits.Writer
		l := parts(count)
		for _, p := range l {
			if e := w.Put(p.v, p.n); e != api.OK {
				t.Fatalf("Put(%d, %d): %d", p.v, p.n, e)
			}
		}
		if w.Len() != len(text(l)) || !bytes.Equal(w.Bytes(), packed(text(l))) {
			t.Fatalf("of %v: %d bits, %X; want %X", l, w.Len(), w.Bytes(), packed(text(l)))
		}
	}
}

func TestPutRefuses(t *testing.T) { // P5.1
	var w bits.Writer
	w.Put(1, 1)
	for _, p := range []part{{0, -1}, {0, 33}, {1, 0}, {2, 1}, {-1, 1}, {-1, 32}, {8, 3}, {1 << 32, 32}, {math.MaxInt, 32}, {math.MinInt, 5}, {0, math.MinInt}, {0, math.MaxInt}} {
		if e := w.Put(p.v, p.n); e != api.ErrArg {
			t.Errorf("Put(%d, %d): %d", p.v, p.n, e)
		}
	}
	if w.Len() != 1 || !bytes.Equal(w.Bytes(), []byte{0x80}) {
		t.Errorf("what was refused is there: %d, %X", w.Len(), w.Bytes())
	}
	for _, p := range []part{{0, 0}, {0, 1}, {1, 1}, {7, 3}, {1<<32 - 1, 32}, {0, 32}} {
		if e := w.Put(p.v, p.n); e != api.OK {
			t.Errorf("Put(%d, %d): %d", p.v, p.n, e)
		}
	}
	if w.Len() != 1+1+1+3+64 {
		t.Errorf("Len: %d", w.Len())
	}
}

func TestGet(t *testing.T) { // P5.2, P5.3
	for count := range 60 {
		l := parts(count)
		var w bits.Writer
		for _, p := range l {
			w.Put(p.v, p.n)
		}
		r := bits.Read(w.Bytes())
		left := 8 * len(w.Bytes())
		for _, p := range l {
			if r.Left() != left {
				t.Fatalf("Left: %d; want %d", r.Left(), left)
			}
			if v, e := r.Get(p.n); v != p.v || e != api.OK {
				t.Fatalf("Get(%d): %d, %d; want %d", p.n, v, e, p.v)
			}
			left -= p.n
		}
		if e := r.Rest(); e != api.OK {
			t.Fatalf("Rest behind %v: %d", l, e)
		}
	}
}

func TestGetRefuses(t *testing.T) { // P5.2
	r := bits.Read([]byte{0xAB, 0xCD})
	for _, n := range []int{-1, 33, math.MinInt, math.MaxInt} {
		if v, e := r.Get(n); v != 0 || e != api.ErrArg {
			t.Errorf("Get(%d): %d, %d", n, v, e)
		}
	}
	for _, n := range []int{17, 32} {
		if v, e := r.Get(n); v != 0 || e != api.ErrBad || r.Left() != 16 {
			t.Errorf("Get(%d) of 16: %d, %d", n, v, e)
		}
	}
	if v, e := r.Get(12); v != 0xABC || e != api.OK {
		t.Errorf("Get(12): %X, %d", v, e)
	}
	if v, e := r.Get(5); v != 0 || e != api.ErrBad || r.Left() != 4 {
		t.Errorf("Get(5) of 4: %d, %d", v, e)
	}
	if v, e := r.Get(4); v != 0xD || e != api.OK || r.Left() != 0 {
		t.Errorf("Get(4) of 4: %X, %d", v, e)
	}
	if v, e := r.Get(0); v != 0 || e != api.OK {
		t.Errorf("Get(0) of 0: %d, %d", v, e)
	}
	if v, e := r.Get(1); v != 0 || e != api.ErrBad {
		t.Errorf("Get(1) of 0: %d, %d", v, e)
	}
}

func TestRest(t *testing.T) { // P5.2
	for _, c := range []struct {
		b    []byte
		take int
		want api.Errno
	}{
		{nil, 0, api.OK}, {[]byte{0}, 0, api.ErrBad}, {[]byte{0}, 1, api.OK}, {[]byte{0}, 8, api.OK},
		{[]byte{1}, 1, api.ErrBad}, {[]byte{1}, 7, api.ErrBad}, {[]byte{1}, 8, api.OK}, {[]byte{0x80}, 1, api.OK},
		{[]byte{0x40}, 1, api.ErrBad}, {[]byte{0xFF, 0}, 8, api.ErrBad}, {[]byte{0xFF, 0}, 9, api.OK}, {[]byte{0, 0}, 7, api.ErrBad},
	} {
		r := bits.Read(c.b)
		r.Get(c.take)
		if e := r.Rest(); e != c.want || r.Left() != 8*len(c.b)-c.take {
			t.Errorf("Rest of %X behind %d: %d, %d left", c.b, c.take, e, r.Left())
		}
	}
}

func TestNil(t *testing.T) { // P5.2
	var w *bits.Writer
	if w.Put(0, 0) != api.ErrArg || w.Put(1, 1) != api.ErrArg || w.Len() != 0 || len(w.Bytes()) != 0 {
		t.Error("a nil Writer")
	}
	var r *bits.Reader
	for n, want := range map[int]api.Errno{0: api.ErrBad, 1: api.ErrBad, 32: api.ErrBad, 33: api.ErrArg, -1: api.ErrArg} {
		if v, e := r.Get(n); v != 0 || e != want {
			t.Errorf("Get(%d) of a nil Reader: %d, %d", n, v, e)
		}
	}
	if r.Left() != 0 || r.Rest() != api.ErrBad {
		t.Error("a nil Reader")
	}
}

func TestNewMemory(t *testing.T) { // P5.3
	var w bits.Writer
	w.Put(0xAB, 8)
	b := w.Bytes()
	b[0] = 0
	_ = append(w.Bytes(), 1)
	w.Put(0xCD, 8)
	if !bytes.Equal(w.Bytes(), []byte{0xAB, 0xCD}) {
		t.Errorf("Bytes shares memory: %X", w.Bytes())
	}
	in := []byte{0xAB}
	r := bits.Read(in)
	in[0] = 0
	if v, _ := r.Get(8); v != 0xAB {
		t.Error("Read keeps what is handed in")
	}
}
