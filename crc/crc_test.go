package crc_test

import (
	"hash/crc32"
	"testing"

	"wainscot/crc"
)

// row is n bytes, the same ones each time.
func row(n int) []byte {
	b := make([]byte, n)
	x := uint32(n + 1)
	for i := range b {
		x = x*1664525 + 1013904223
		b[i] = byte(x >> 24)
	}
	return b
}

func TestMake(t *testing.T) { // P4.1
	if crc.Make() != crc.Table(*crc32.IEEETable) {
		t.Error("the table is not that of EDB88320")
	}
}

func TestOf(t *testing.T) { // P4.1
	table := crc.Make()
	if got := crc.Of(table, []byte("123456789")); got != 0xCBF43926 {
		t.Errorf("the document's example: %X", got)
	}
	if got := crc.Of(table, nil); got != 0 {
		t.Errorf("of no bytes: %X", got)
	}
	for n := range 300 {
		if got, want := crc.Of(table, row(n)), crc32.ChecksumIEEE(row(n)); got != want {
			t.Fatalf("of %d bytes: %X; want %X", n, got, want)
		}
	}
}

func TestOfTakesItsTable(t *testing.T) { // P4.1
	other := crc.Table(*crc32.MakeTable(crc32.Castagnoli))
	want := crc32.Checksum(row(50), crc32.MakeTable(crc32.Castagnoli))
	if got := crc.Of(other, row(50)); got != want {
		t.Errorf("with another table: %X; want %X", got, want)
	}
	if got := crc.On(other, crc.Of(other, row(50)[:20]), row(50)[20:]); got != want {
		t.Errorf("On with another table: %X; want %X", got, want)
	}
	if got := crc.Of(crc.Table{}, []byte{1, 2, 3, 4}); got != 0xFFFFFFFF {
		t.Errorf("with a table of noughts: %X", got)
	}
}

func TestOn(t *testing.T) { // P4.1, P4.2
	table := crc.Make()
	b := row(64)
	want := crc32.ChecksumIEEE(b)
	for cut := range 65 {
		if got := crc.On(table, crc.Of(table, b[:cut]), b[cut:]); got != want {
			t.Fatalf("in two parts at %d: %X; want %X", cut, got, want)
		}
	}
	if got := crc.On(table, 0x12345678, nil); got != 0x12345678 {
		t.Errorf("On of nothing: %X", got)
	}
}

func TestNothingIsChanged(t *testing.T) { // P4.2
	table, b := crc.Make(), row(20)
	crc.Of(table, b)
	crc.On(table, 5, b)
	if string(b) != string(row(20)) || table != crc.Make() {
		t.Error("what was handed in is changed")
	}
}
