package dir_test

import (
	"bytes"
	"math"
	"slices"
	"testing"

	"wainscot/api"
	"wainscot/dir"
	"wainscot/page"
)

// some is entries of depth 1, out of order.
func some() []api.Entry {
	return []api.Entry{
		{Page: api.Page{L: 0, X: 1, Y: 1}, Start: 2, Len: 1, Sum: 0x01020304},
		{Page: api.Page{L: 1}, Start: 2047, Len: 32, Sum: 1<<32 - 1},
		{Page: api.Page{L: 0, X: 1, Y: 0}, Start: 3, Len: 33, Sum: 5},
		{Page: api.Page{L: 0, X: 0, Y: 1}, Start: 0x0506, Len: 4096, Sum: 0},
	}
}

// byKey is the same in order.
func byKey() []api.Entry {
	l := some()
	return []api.Entry{l[1], l[2], l[3], l[0]}
}

func make1(t *testing.T, d int, l []api.Entry) *dir.Dir {
	t.Helper()
	got, e := dir.New(d, l)
	if e != api.OK {
		t.Fatalf("New(%d, %v): %d", d, l, e)
	}
	return got
}

func all(d *dir.Dir) []api.Entry { return slices.Collect(d.All()) }

func TestSectors(t *testing.T) { // P12.1
	for n, want := range map[int]int{0: 0, -1: 0, math.MinInt: 0, 1: 1, 31: 1, 32: 1, 33: 2, 64: 2, 65: 3, 4096: 128, math.MaxInt: math.MaxInt/32 + 1} {
		if got := dir.Sectors(n); got != want {
			t.Errorf("Sectors(%d): %d; want %d", n, got, want)
		}
	}
}

func TestNew(t *testing.T) { // P12.1
	d := make1(t, 1, some())
	if !slices.Equal(all(d), byKey()) || d.Len() != 4 {
		t.Errorf("All: %v", all(d))
	}
	for _, e := range some() {
		if got, ok := d.Get(e.Page); got != e || !ok {
			t.Errorf("Get(%v): %v, %v", e.Page, got, ok)
		}
	}
	for _, p := range []api.Page{{}, {L: 2}, {L: -1}, {X: 2}} {
		if got, ok := d.Get(p); got != (api.Entry{}) || ok {
			t.Errorf("Get(%v): %v, %v", p, got, ok)
		}
	}
	for depth := range 4 {
		if d := make1(t, depth, nil); d.Len() != 0 || len(all(d)) != 0 || len(d.Bytes()) != 0 {
			t.Errorf("an empty one of depth %d", depth)
		}
	}
	for _, depth := range []int{-1, 4, math.MinInt, math.MaxInt} {
		if d, e := dir.New(depth, nil); d != nil || e != api.ErrArg {
			t.Errorf("New(%d): %v, %d", depth, d, e)
		}
	}
}

func TestNewOfAFullOne(t *testing.T) { // P12.1
	var l []api.Entry
	at := 2
	for p := range page.All(3) {
		l = append(l, api.Entry{Page: p, Start: at, Len: 32*24 - at%7, Sum: uint32(at)})
		at += 24
	}
	want := slices.Clone(l)
	slices.Reverse(l)
	if d := make1(t, 3, l); !slices.Equal(all(d), want) || d.Len() != 85 || len(d.Bytes()) != 850 {
		t.Errorf("all pages of depth 3: %v", all(d))
	}
}

// wrong is entries that may not be beside one of {0, 0, 0} at 10 of 64 bytes.
func wrong() map[string][]api.Entry {
	one := func(start, length int) []api.Entry {
		return []api.Entry{{Page: api.Page{L: 1}, Start: start, Len: length}}
	}
	return map[string][]api.Entry{
		"no page":              {{Page: api.Page{L: 2}, Start: 20, Len: 1}},
		"no page's place":      {{Page: api.Page{X: 2}, Start: 20, Len: 1}},
		"a page twice":         {{Page: api.Page{L: 1}, Start: 20, Len: 1}, {Page: api.Page{L: 1}, Start: 30, Len: 1}},
		"a head":               one(1, 1),
		"no sector":            one(-1, 1),
		"a sector too far":     one(2048, 1),
		"the greatest start":   one(math.MaxInt, 1),
		"the least start":      one(math.MinInt, 1),
		"no bytes":             one(20, 0),
		"fewer than no bytes":  one(20, -1),
		"too many bytes":       one(20, 4097),
		"the greatest length":  one(20, math.MaxInt),
		"beyond the end":       one(2047, 33),
		"far beyond the end":   one(1921, 4096),
		"one over another":     one(10, 1),
		"one over its end":     one(11, 40),
		"one over its start":   one(9, 33),
		"one around the other": one(8, 320),
	}
}

func TestNewRefuses(t *testing.T) { // P12.1
	rest := api.Entry{Start: 10, Len: 64}
	for what, l := range wrong() {
		for _, all := range [][]api.Entry{append([]api.Entry{rest}, l...), append(slices.Clone(l), rest)} {
			if d, e := dir.New(1, all); d != nil || e != api.ErrArg {
				t.Errorf("%s: %v, %d", what, d, e)
			}
		}
		if d, e := make1(t, 1, []api.Entry{rest}).With(l); d != nil || e != api.ErrArg {
			t.Errorf("With %s: %v, %d", what, d, e)
		}
	}
	for _, c := range [][2]int{{2, 1}, {12, 4096}, {9, 32}, {2047, 32}, {1920, 4096}} {
		make1(t, 1, []api.Entry{rest, {Page: api.Page{L: 1}, Start: c[0], Len: c[1]}})
	}
}

func TestWith(t *testing.T) { // P12.1
	d := make1(t, 1, some())
	before := slices.Clone(all(d))
	add := []api.Entry{
		{Page: api.Page{L: 0, X: 1, Y: 1}, Start: 3, Len: 32, Sum: 8}, // where another one stood
		{Page: api.Page{}, Start: 900, Len: 7, Sum: 9},
		{Page: api.Page{L: 0, X: 1, Y: 0}, Start: 2, Len: 5, Sum: 10},
	}
	got, e := d.With(add)
	want := []api.Entry{byKey()[0], add[1], add[2], byKey()[2], add[0]}
	if e != api.OK || !slices.Equal(all(got), want) || got.Len() != 5 {
		t.Errorf("With: %v, %d; want %v", all(got), e, want)
	}
	if !slices.Equal(all(d), before) {
		t.Errorf("With has changed what it was made of: %v", all(d))
	}
	if same, e := d.With(nil); e != api.OK || !slices.Equal(all(same), before) {
		t.Errorf("With nothing: %v, %d", all(same), e)
	}
}

func TestBytes(t *testing.T) { // P12.2
	want := []byte{
		0, 0, 0x07, 0xFF, 0, 32, 0xFF, 0xFF, 0xFF, 0xFF,
		0, 2, 0, 3, 0, 33, 0, 0, 0, 5,
		0, 3, 5, 6, 0x10, 0, 0, 0, 0, 0,
		0, 4, 0, 2, 0, 1, 1, 2, 3, 4,
	}
	d := make1(t, 1, some())
	if !bytes.Equal(d.Bytes(), want) {
		t.Errorf("Bytes: %v", d.Bytes())
	}
	got, e := dir.Decode(1, want)
	if e != api.OK || !slices.Equal(all(got), byKey()) || !bytes.Equal(got.Bytes(), want) { // P12.3
		t.Errorf("Decode: %v, %d", all(got), e)
	}
	if deeper, e := got.With([]api.Entry{{Page: api.Page{L: 2}, Start: 50, Len: 1}}); deeper != nil || e != api.ErrArg {
		t.Errorf("With of what was decoded: %v, %d", deeper, e)
	}
}

func TestDecodeRefuses(t *testing.T) { // P12.2
	good := make1(t, 1, some()).Bytes()
	for _, depth := range []int{-1, 4, math.MinInt, math.MaxInt} {
		for _, b := range [][]byte{nil, good, {1}} {
			if d, e := dir.Decode(depth, b); d != nil || e != api.ErrArg {
				t.Errorf("Decode of depth %d: %v, %d", depth, d, e)
			}
		}
	}
	for n := range good {
		d, e := dir.Decode(1, slices.Clip(good[:n]))
		if n%10 == 0 && (e != api.OK || d.Len() != n/10) || n%10 != 0 && (d != nil || e != api.ErrBad) {
			t.Errorf("Decode of %d bytes: %v, %d", n, d, e)
		}
	}
	swapped := append(append(slices.Clone(good[10:20]), good[:10]...), good[20:]...)
	for what, b := range map[string][]byte{
		"out of order":     swapped,
		"a page twice":     append(slices.Clone(good[:10]), good[:10]...),
		"no page's key":    {0, 5, 0, 9, 0, 1, 0, 0, 0, 0},
		"no page at all":   {0xFF, 0xFF, 0, 9, 0, 1, 0, 0, 0, 0},
		"a head":           {0, 0, 0, 1, 0, 1, 0, 0, 0, 0},
		"no bytes":         {0, 0, 0, 9, 0, 0, 0, 0, 0, 0},
		"too many bytes":   {0, 0, 0, 9, 0x10, 1, 0, 0, 0, 0},
		"too far":          {0, 0, 8, 0, 0, 1, 0, 0, 0, 0},
		"beyond the end":   {0, 0, 7, 0xFF, 0, 33, 0, 0, 0, 0},
		"one over another": {0, 0, 0, 9, 0, 33, 0, 0, 0, 0, 0, 1, 0, 10, 0, 1, 0, 0, 0, 0},
	} {
		if d, e := dir.Decode(1, b); d != nil || e != api.ErrBad {
			t.Errorf("%s: %v, %d", what, d, e)
		}
	}
	if d, e := dir.Decode(0, good); d != nil || e != api.ErrBad {
		t.Errorf("of a lesser depth: %v, %d", d, e)
	}
}

func TestAllEndsEarly(t *testing.T) { // P12.1
	d := make1(t, 1, some())
	var l []api.Entry
	for e := range d.All() {
		l = append(l, e)
		if len(l) == 2 {
			break
		}
	}
	if !slices.Equal(l, byKey()[:2]) {
		t.Errorf("the first two: %v", l)
	}
}

func TestNil(t *testing.T) { // P12.2
	var d *dir.Dir
	e, ok := d.Get(api.Page{})
	w, err := d.With(nil)
	if e != (api.Entry{}) || ok || w != nil || err != api.ErrArg || len(all(d)) != 0 || d.Len() != 0 || len(d.Bytes()) != 0 {
		t.Error("a nil Dir")
	}
}

func TestNewMemory(t *testing.T) { // P12.3
	in := some()
	before := slices.Clone(in)
	d := make1(t, 1, in[:3:4])
	if !slices.Equal(in, before) {
		t.Errorf("what was handed in is changed: %v", in)
	}
	if _, e := d.With(in[1:2]); e != api.OK || !slices.Equal(in, before) {
		t.Errorf("what was handed in is changed by With: %v", in)
	}
	clear(in)
	if got, ok := d.Get(before[0].Page); got != before[0] || !ok {
		t.Error("New keeps what is handed in")
	}
	b := d.Bytes()
	clear(b)
	if bytes.Equal(b, d.Bytes()) {
		t.Error("Bytes shares memory")
	}
}
