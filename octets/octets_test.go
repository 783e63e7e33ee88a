package octets_test

import (
	"bytes"
	"testing"

	"wainscot/octets"
)

func TestPutAndGet(t *testing.T) {
	for _, c := range []struct {
		n, size int
		want    []byte
	}{
		{0, 0, nil}, {7, 1, []byte{7}}, {255, 1, []byte{255}}, {0x0102, 2, []byte{1, 2}}, {5, 4, []byte{0, 0, 0, 5}}, {0xFFFEFDFC, 4, []byte{0xFF, 0xFE, 0xFD, 0xFC}},
	} {
		got := octets.Put([]byte{9}, c.n, c.size)
		if !bytes.Equal(got[1:], c.want) || got[0] != 9 {
			t.Errorf("Put(%d, %d): %v", c.n, c.size, got)
		}
		if octets.Get(got[1:]) != c.n {
			t.Errorf("Get(%v): %d", got[1:], octets.Get(got[1:]))
		}
	}
	if got := octets.Put(nil, -2, 4); !bytes.Equal(got, []byte{255, 255, 255, 254}) {
		t.Errorf("Put of minus two: %v", got)
	}
}
