package match_test

import (
	"math"
	"slices"
	"testing"

	"wainscot/match"
)

// row is n bytes of so many kinds, the same ones each time.
func row(n, kinds int, seed uint64) []byte {
	b := make([]byte, n)
	x := seed*2862933555777941757 + 3037000493
	for i := range b {
		x ^= x << 13
		x ^= x >> 7
		x ^= x << 17
		b[i] = byte(int(x>>33) % kinds)
	}
	return b
}

// same is how many bytes a match would have, none less.
func same(b []byte, dist, at int) int {
	n := 0
	for n < 258 && at+n < len(b) && b[at-dist+n] == b[at+n] {
		n++
	}
	return n
}

// dists is all matches at a place, looked for one by one.
func dists(b []byte, at int) []int {
	var l []int
	for d := 1; d <= 4096 && d <= at; d++ {
		if same(b, d, at) >= 3 {
			l = append(l, d)
		}
	}
	return l
}

func check(t *testing.T, b []byte, f *match.Finder, at int) {
	t.Helper()
	want := dists(b, at)
	if got := slices.Collect(f.Places(at)); !slices.Equal(got, want) {
		t.Fatalf("Places(%d): %v; want %v", at, got, want)
	}
	dist, n := 0, 0
	for _, d := range want {
		if m := same(b, d, at); m > n {
			dist, n = d, m
		}
	}
	if gotDist, gotN := f.At(at); gotDist != dist || gotN != n {
		t.Fatalf("At(%d): %d, %d; want %d, %d", at, gotDist, gotN, dist, n)
	}
}

func TestAllPlaces(t *testing.T) { // P6.1
	for seed, kinds := range []int{1, 2, 3, 4, 16, 256} {
		for _, n := range []int{0, 1, 2, 3, 4, 5, 40, 300, 600} {
			b := row(n, kinds, uint64(seed))
			f := match.New(b)
			for at := range b {
				check(t, b, f, at)
			}
		}
	}
}

func TestFarInALongRow(t *testing.T) { // P6.1
	for _, kinds := range []int{2, 8, 40} {
		b := row(12000, kinds, 5)
		f := match.New(b)
		for at := 3000; at < len(b); at += 601 {
			check(t, b, f, at)
		}
		check(t, b, f, len(b)-3)
		check(t, b, f, len(b)-2)
	}
}

func TestExample(t *testing.T) { // P6.1
	f := match.New([]byte("aaaa"))
	if d, n := f.At(1); d != 1 || n != 3 {
		t.Errorf("aaaa at 1: %d, %d", d, n)
	}
	for _, at := range []int{0, 2, 3} {
		if d, n := f.At(at); d != 0 || n != 0 {
			t.Errorf("aaaa at %d: %d, %d", at, d, n)
		}
	}
}

func TestReach(t *testing.T) { // P6.1
	for _, gap := range []int{4095, 4096, 4097, 5000} {
		b := row(gap+40, 200, 3)
		for i := range b {
			b[i] += 50 // so that the marks stand nowhere else
		}
		copy(b, "\x01\x02\x03\x04\x05")
		copy(b[gap:], "\x01\x02\x03\x04\x06")
		f := match.New(b)
		check(t, b, f, gap)
		d, n := f.At(gap)
		if gap <= 4096 && (d != gap || n != 4) || gap > 4096 && (d != 0 || n != 0) {
			t.Errorf("a match %d back: %d, %d", gap, d, n)
		}
	}
}

func TestLongest(t *testing.T) { // P6.1
	b := make([]byte, 1000)
	f := match.New(b)
	for at, want := range map[int]int{1: 258, 742: 258, 743: 257, 900: 100, 997: 3} {
		if d, n := f.At(at); d != 1 || n != want {
			t.Errorf("At(%d) of noughts: %d, %d", at, d, n)
		}
	}
	if d, n := f.At(998); d != 0 || n != 0 {
		t.Errorf("At(998) of noughts: %d, %d", d, n)
	}
	text := []byte("abcdX-abcY--abcdZ abcd!")
	f = match.New(text)
	if d, n := f.At(12); d != 12 || n != 4 {
		t.Errorf("the longer one, farther: %d, %d", d, n)
	}
	if d, n := f.At(18); d != 6 || n != 4 {
		t.Errorf("of two alike the nearer one: %d, %d", d, n)
	}
}

func TestNone(t *testing.T) { // P6.1
	f := match.New([]byte("abcabcabc"))
	for _, at := range []int{-1, 9, 10, math.MinInt, math.MaxInt} {
		if d, n := f.At(at); d != 0 || n != 0 || len(slices.Collect(f.Places(at))) != 0 {
			t.Errorf("At(%d): %d, %d", at, d, n)
		}
	}
	f = match.New(nil)
	if d, n := f.At(0); d != 0 || n != 0 {
		t.Errorf("of no bytes: %d, %d", d, n)
	}
	f = nil
	if d, n := f.At(0); d != 0 || n != 0 || len(slices.Collect(f.Places(0))) != 0 {
		t.Errorf("of nil: %d, %d", d, n)
	}
}

func TestPlacesEndsEarly(t *testing.T) { // P6.1
	f := match.New(make([]byte, 100))
	places := f.Places(50)
	var l []int
	for d := range places {
		l = append(l, d)
		if len(l) == 3 {
			break
		}
	}
	if !slices.Equal(l, []int{1, 2, 3}) || len(slices.Collect(places)) != 50 {
		t.Errorf("the first three: %v", l)
	}
}

func TestCopyIsWhatStandsThere(t *testing.T) { // P6.2
	b := row(3000, 3, 11)
	f := match.New(b)
	for at := range b {
		d, n := f.At(at)
		got := slices.Clone(b[:at])
		for range n {
			got = append(got, got[len(got)-d])
		}
		if !slices.Equal(got, b[:at+n]) {
			t.Fatalf("at %d: %d, %d", at, d, n)
		}
	}
}

func TestNotKept(t *testing.T) { // P6.2
	b := []byte("abcabcabc")
	f := match.New(b)
	copy(b, "123456789")
	if d, n := f.At(3); d != 3 || n != 6 {
		t.Errorf("behind a change: %d, %d", d, n)
	}
	b = []byte("abcabcabc")
	match.New(b).At(3)
	if string(b) != "abcabcabc" {
		t.Error("what was handed in is changed")
	}
}
