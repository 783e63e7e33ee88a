package lz_test

import (
	"bytes"
	"math"
	"testing"

	"wainscot/api"
	"wainscot/bits"
	"wainscot/lz"
	"wainscot/match"
)

// row is n bytes of so many kinds, the same ones each time.
func row(n, kinds int) []byte {
	b := make([]byte, n)
	x := uint64(n*kinds)*2862933555777941757 + 3037000493
	for i := range b {
		x ^= x << 13
		x ^= x >> 7
		x ^= x << 17
		b[i] = byte(int(x>>33) % kinds)
	}
	return b
}

// put writes numbers and their widths in turn.
func put(l ...int) []byte {
	var w bits.Writer
	for i := 0; i < len(l); i += 2 {
		w.Put(l[i], l[i+1])
	}
	return w.Bytes()
}

// packed is what the document says of Pack, by its own parts.
func packed(b []byte) []byte {
	l := []int{len(b), 16}
	f := match.New(b)
	for at := 0; at < len(b); {
		dist, n := f.At(at)
		if n == 0 {
			l = append(l, 0, 1, int(b[at]), 8)
			n = 1
		} else {
			l = append(l, 1, 1, dist-1, 12, n-3, 8)
		}
		at += n
	}
	return put(l...)
}

func samples() [][]byte {
	var l [][]byte
	for _, kinds := range []int{1, 2, 4, 256} {
		for _, n := range []int{0, 1, 2, 3, 4, 5, 6, 7, 8, 9, 100, 144, 300, 5000} {
			l = append(l, row(n, kinds))
		}
	}
	return append(l, make([]byte, 65535), row(65535, 256), bytes.Repeat([]byte("abcdefg"), 900))
}

func TestPack(t *testing.T) { // P7.1
	for _, b := range samples() {
		got, e := lz.Pack(b)
		if e != api.OK || !bytes.Equal(got, packed(b)) {
			t.Fatalf("Pack of %d bytes: %d", len(b), e)
		}
		if len(got) > lz.Most(len(b)) {
			t.Fatalf("Pack of %d bytes tells %d, more than Most", len(b), len(got))
		}
	}
	if got, e := lz.Pack(nil); e != api.OK || !bytes.Equal(got, []byte{0, 0}) {
		t.Errorf("no bytes: %X, %d", got, e)
	}
	if got, _ := lz.Pack([]byte("aaaa")); !bytes.Equal(got, put(4, 16, 0, 1, 'a', 8, 1, 1, 0, 12, 0, 8)) {
		t.Errorf("aaaa: %X", got)
	}
	if got, e := lz.Pack(make([]byte, 65536)); e != api.ErrArg || len(got) != 0 {
		t.Errorf("one byte more than may be: %d", e)
	}
}

func TestUnpackIsPackTurned(t *testing.T) { // P7.2
	for _, b := range samples() {
		p, _ := lz.Pack(b)
		if got, e := lz.Unpack(p); e != api.OK || !bytes.Equal(got, b) {
			t.Fatalf("Unpack of Pack of %d bytes: %d bytes, %d", len(b), len(got), e)
		}
	}
}

func TestUnpackTakesAnyMatch(t *testing.T) { // P7.1
	for _, c := range []struct {
		p    []byte
		want string
	}{
		{put(3, 16, 0, 1, 'a', 8, 0, 1, 'a', 8, 0, 1, 'a', 8), "aaa"},
		{put(7, 16, 0, 1, 'a', 8, 0, 1, 'b', 8, 1, 1, 1, 12, 2, 8), "abababa"},
		{put(8, 16, 0, 1, 'a', 8, 0, 1, 'a', 8, 1, 1, 1, 12, 0, 8, 1, 1, 4, 12, 0, 8), "aaaaaaaa"},
		{put(259, 16, 0, 1, 'x', 8, 1, 1, 0, 12, 255, 8), string(bytes.Repeat([]byte("x"), 259))},
	} {
		if got, e := lz.Unpack(c.p); e != api.OK || string(got) != c.want {
			t.Errorf("Unpack(%X): %q, %d", c.p, got, e)
		}
	}
	far := []int{4099, 16}
	for i := range 4096 {
		far = append(far, 0, 1, i%251, 8)
	}
	if got, e := lz.Unpack(put(append(far, 1, 1, 4095, 12, 0, 8)...)); e != api.OK || !bytes.Equal(got[4096:], []byte{0, 1, 2}) {
		t.Errorf("a match from as far as can be: %d", e)
	}
}

func TestUnpackRefuses(t *testing.T) { // P7.1
	for name, p := range map[string][]byte{
		"nothing":                      nil,
		"half a count":                 {0},
		"too few for a byte":           {0, 1, 0},
		"none behind the count":        {0, 1},
		"a match ahead of all":         put(3, 16, 1, 1, 0, 12, 0, 8),
		"a match ahead of the first":   put(4, 16, 0, 1, 'a', 8, 1, 1, 1, 12, 0, 8),
		"a match beyond the end":       put(3, 16, 0, 1, 'a', 8, 1, 1, 0, 12, 0, 8),
		"a match with half a size":     put(9, 16, 0, 1, 'a', 8, 1, 1, 0, 12, 0, 2),
		"a match with half a distance": put(9, 16, 0, 1, 'a', 8, 1, 1, 0, 5),
		"a one behind the last":        put(1, 16, 0, 1, 'a', 8, 1, 1),
		"a last one behind the last":   put(1, 16, 0, 1, 'a', 8, 1, 7),
		"a byte of noughts behind":     put(1, 16, 0, 1, 'a', 8, 0, 15),
		"two noughts, and one more":    {0, 0, 0},
	} {
		if got, e := lz.Unpack(p); e != api.ErrBad || len(got) != 0 {
			t.Errorf("%s: %q, %d", name, got, e)
		}
	}
}

func TestUnpackOfAnything(t *testing.T) { // P7.1
	b := bytes.Repeat([]byte("wainscot "), 12)
	p, _ := lz.Pack(b)
	for cut := range p {
		if got, e := lz.Unpack(p[:cut]); e != api.ErrBad || len(got) != 0 {
			t.Fatalf("cut at %d: %q, %d", cut, got, e)
		}
	}
	for n := range 400 {
		if got, e := lz.Unpack(row(n, 256)); e != api.OK && e != api.ErrBad || e != api.OK && len(got) != 0 {
			t.Fatalf("of %d odd bytes: %d", n, e)
		}
	}
}

func TestMost(t *testing.T) { // P7.1
	for n, want := range map[int]int{0: 2, 1: 4, 2: 5, 7: 10, 8: 11, 9: 13, 144: 164, 65535: 73729, 65536: 0, -1: 0, math.MinInt: 0, math.MaxInt: 0} {
		if got := lz.Most(n); got != want {
			t.Errorf("Most(%d): %d; want %d", n, got, want)
		}
	}
}

func TestNewMemory(t *testing.T) { // P7.2
	b := []byte("abcabcabcabcd")
	p, _ := lz.Pack(b)
	u, _ := lz.Unpack(p)
	clear(b)
	if got, e := lz.Unpack(p); e != api.OK || string(got) != "abcabcabcabcd" {
		t.Errorf("Pack keeps what is handed in: %q", got)
	}
	clear(p)
	if string(u) != "abcabcabcabcd" {
		t.Errorf("Unpack keeps what is handed in: %q", u)
	}
}
