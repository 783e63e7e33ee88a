package super_test

import (
	"bytes"
	"encoding/binary"
	"hash/crc32"
	"math"
	"testing"

	"wainscot/api"
	"wainscot/crc"
	"wainscot/super"
)

// written is a block's bytes, byte for byte as the document says.
func written(gen uint32, d, wrap byte, start, length uint16, sum uint32) []byte {
	b := []byte("WAIN")
	b = binary.BigEndian.AppendUint32(b, gen)
	b = append(b, d, wrap)
	b = binary.BigEndian.AppendUint16(b, start)
	b = binary.BigEndian.AppendUint16(b, length)
	b = binary.BigEndian.AppendUint32(b, sum)
	b = append(b, make([]byte, 10)...)
	return binary.BigEndian.AppendUint32(b, crc32.ChecksumIEEE(b))
}

// summed is bytes with their sum put right.
func summed(b []byte) []byte {
	b = bytes.Clone(b)
	binary.BigEndian.PutUint32(b[28:], crc32.ChecksumIEEE(b[:28]))
	return b
}

var odd = super.Block{Gen: 0x01020304, D: 2, Wrap: true, Start: 0x0506, Len: 0x0708, Sum: 0x090A0B0C}

func TestEncode(t *testing.T) { // P10.1
	table := crc.Make()
	for _, c := range []struct {
		b    super.Block
		want []byte
	}{
		{odd, written(0x01020304, 2, 1, 0x0506, 0x0708, 0x090A0B0C)},
		{super.Block{}, written(0, 0, 0, 0, 0, 0)},
		{super.Block{Gen: 1, D: 3}, written(1, 3, 0, 0, 0, 0)},
		{super.Block{Gen: 1<<32 - 1, D: 3, Wrap: true, Start: 65535, Len: 65535, Sum: 1<<32 - 1}, written(1<<32-1, 3, 1, 65535, 65535, 1<<32-1)},
	} {
		got, e := super.Encode(table, c.b)
		if e != api.OK || !bytes.Equal(got, c.want) {
			t.Errorf("Encode(%v): %X, %d; want %X", c.b, got, e, c.want)
		}
		if b, e := super.Decode(table, c.want); b != c.b || e != api.OK {
			t.Errorf("Decode(%X): %v, %d; want %v", c.want, b, e, c.b)
		}
	}
}

func TestEncodeRefuses(t *testing.T) { // P10.1
	table := crc.Make()
	for _, n := range []int{-1, math.MinInt, math.MaxInt, 1 << 40} {
		for i, b := range []super.Block{{Gen: n}, {D: n}, {Start: n}, {Len: n}} {
			if got, e := super.Encode(table, b); e != api.ErrArg || len(got) != 0 {
				t.Errorf("field %d of %d: %X, %d", i, n, got, e)
			}
		}
	}
	for i, b := range []super.Block{{Gen: 1 << 32}, {D: 4}, {Start: 65536}, {Len: 65536}} {
		if got, e := super.Encode(table, b); e != api.ErrArg || len(got) != 0 {
			t.Errorf("field %d at one more: %X, %d", i, got, e)
		}
	}
}

func TestDecodeRefuses(t *testing.T) { // P10.1
	table := crc.Make()
	good := written(7, 1, 0, 20, 30, 40)
	bad := map[string][]byte{
		"nothing":             nil,
		"too short":           good[:31],
		"too long":            append(bytes.Clone(good), 0),
		"noughts":             make([]byte, 32),
		"another mark":        summed(append([]byte("WAIM"), good[4:]...)),
		"a depth of 4":        written(7, 4, 0, 20, 30, 40),
		"a depth of 255":      written(7, 255, 0, 20, 30, 40),
		"a Wrap of 2":         written(7, 1, 2, 20, 30, 40),
		"a sum that is wrong": append(bytes.Clone(good[:31]), good[31]+1),
	}
	for i := 18; i < 28; i++ {
		b := bytes.Clone(good)
		b[i] = 1
		bad["a one among the noughts at "+string(rune('a'+i))] = summed(b)
	}
	for what, b := range bad {
		if got, e := super.Decode(table, b); got != (super.Block{}) || e != api.ErrBad {
			t.Errorf("%s: %v, %d", what, got, e)
		}
	}
}

func TestItsTable(t *testing.T) { // P10.1
	other := crc.Table(*crc32.MakeTable(crc32.Castagnoli))
	b, e := super.Encode(other, odd)
	want := written(0x01020304, 2, 1, 0x0506, 0x0708, 0x090A0B0C)
	binary.BigEndian.PutUint32(want[28:], crc32.Checksum(want[:28], crc32.MakeTable(crc32.Castagnoli)))
	if e != api.OK || !bytes.Equal(b, want) {
		t.Errorf("with another table: %X; want %X", b, want)
	}
	if _, e := super.Decode(crc.Make(), b); e != api.ErrBad {
		t.Errorf("read by the wrong table: %d", e)
	}
	if got, e := super.Decode(other, b); got != odd || e != api.OK {
		t.Errorf("read by its own table: %v, %d", got, e)
	}
}

func TestNewer(t *testing.T) { // P10.2
	three, four := super.Block{Gen: 3}, super.Block{Gen: 4}
	for _, c := range []struct {
		a, b     super.Block
		aOK, bOK bool
		want     int
	}{
		{three, four, true, true, 1}, {four, three, true, true, 0}, {three, three, true, true, 0},
		{three, four, true, false, 0}, {four, three, true, false, 0}, {three, four, false, true, 1}, {four, three, false, true, 1},
		{three, three, false, true, 1}, {three, four, false, false, -1}, {four, three, false, false, -1},
		{super.Block{Gen: 1, D: 3, Start: 9}, super.Block{Gen: 1, Sum: 5, Len: 7}, true, true, 0},
		{super.Block{Gen: 1<<32 - 1}, super.Block{}, true, true, 0},
	} {
		if got := super.Newer(c.a, c.b, c.aOK, c.bOK); got != c.want {
			t.Errorf("Newer(%d, %d, %v, %v): %d", c.a.Gen, c.b.Gen, c.aOK, c.bOK, got)
		}
	}
}

func TestATurnedBitMakesItNone(t *testing.T) { // P10.3
	table := crc.Make()
	good, _ := super.Encode(table, odd)
	for bit := range 256 {
		b := bytes.Clone(good)
		b[bit/8] ^= 1 << (bit % 8)
		if got, e := super.Decode(table, b); got != (super.Block{}) || e != api.ErrBad {
			t.Errorf("bit %d: %v, %d", bit, got, e)
		}
	}
	before := bytes.Clone(good)
	super.Decode(table, good)
	if !bytes.Equal(good, before) {
		t.Error("what was handed in is changed")
	}
}
