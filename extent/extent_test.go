package extent_test

import (
	"fmt"
	"math"
	"testing"

	"wainscot/api"
	"wainscot/extent"
)

func make1(t *testing.T, n int) *extent.Map {
	t.Helper()
	m, e := extent.New(n)
	if e != api.OK {
		t.Fatalf("New(%d): %d", n, e)
	}
	return m
}

// runs is Free as text.
func runs(m *extent.Map) string {
	s := ""
	for start, n := range m.Free() {
		s += fmt.Sprintf("%d+%d ", start, n)
	}
	return s
}

// free is the same of plain marks.
func free(used []bool) string {
	s := ""
	for i := 0; i < len(used); i++ {
		n := 0
		for i+n < len(used) && !used[i+n] {
			n++
		}
		if n > 0 {
			s += fmt.Sprintf("%d+%d ", i, n)
			i += n
		}
	}
	return s
}

func TestNew(t *testing.T) { // P9.1
	for _, n := range []int{0, -1, 2049, math.MinInt, math.MaxInt} {
		if m, e := extent.New(n); m != nil || e != api.ErrArg {
			t.Errorf("New(%d): %v, %d", n, m, e)
		}
	}
	for _, n := range []int{1, 2048} {
		m := make1(t, n)
		if m.Used() != 0 || runs(m) != fmt.Sprintf("0+%d ", n) {
			t.Errorf("New(%d): %d, %s", n, m.Used(), runs(m))
		}
	}
}

func TestExample(t *testing.T) { // P9.1
	m := make1(t, 4)
	a, _ := m.Take(2)
	b, _ := m.Take(1)
	e := m.Give(0, 2)
	c, _ := m.Take(1)
	if a != 0 || b != 2 || c != 0 || e != api.OK {
		t.Errorf("%d, %d, %d, %d", a, b, e, c)
	}
}

// like does with plain marks what is asked, and tells what should be told.
func like(used []bool, what, start, n int) (int, api.Errno) {
	if what == 0 {
		for s := 0; s+n <= len(used); s++ {
			ok := true
			for i := range n {
				ok = ok && !used[s+i]
			}
			if ok {
				for i := range n {
					used[s+i] = true
				}
				return s, api.OK
			}
		}
		return 0, api.ErrFull
	}
	if n < 1 || start < 0 || start+n > len(used) {
		return 0, api.ErrArg
	}
	for i := range n {
		if used[start+i] == (what == 1) {
			return 0, []api.Errno{0, api.ErrHave, api.ErrNone}[what]
		}
	}
	for i := range n {
		used[start+i] = what == 1
	}
	return 0, api.OK
}

func TestLikePlainMarks(t *testing.T) { // P9.1, P9.2, P9.3
	x := uint64(77)
	told := map[api.Errno]int{}
	for _, size := range []int{1, 2, 7, 20, 64} {
		m, used := make1(t, size), make([]bool, size)
		for range 3000 {
			x ^= x << 13
			x ^= x >> 7
			x ^= x << 17
			what, start, n := int(x>>20)%3, int(x>>30)%(size+2)-1, int(x>>44)%5
			var got int
			var e api.Errno
			switch what {
			case 0:
				n++
				got, e = m.Take(n)
			case 1:
				e = m.Claim(start, n)
			case 2:
				e = m.Give(start, n)
			}
			want, wantE := like(used, what, start, n)
			if got != want || e != wantE {
				t.Fatalf("%d of %d, %d: %d, %d; want %d, %d", what, start, n, got, e, want, wantE)
			}
			told[e]++
			count := 0
			for _, u := range used {
				if u {
					count++
				}
			}
			if m.Used() != count || runs(m) != free(used) {
				t.Fatalf("%d used, free %s; want %d, %s", m.Used(), runs(m), count, free(used))
			}
		}
	}
	for _, e := range []api.Errno{api.OK, api.ErrFull, api.ErrArg, api.ErrHave, api.ErrNone} {
		if told[e] == 0 {
			t.Errorf("the test never saw %d", e)
		}
	}
}

func TestRefuses(t *testing.T) { // P9.1
	m := make1(t, 8)
	m.Claim(2, 2)
	for _, n := range []int{0, -1, math.MinInt} {
		if s, e := m.Take(n); s != 0 || e != api.ErrArg {
			t.Errorf("Take(%d): %d, %d", n, s, e)
		}
	}
	for _, n := range []int{5, 8, 9, math.MaxInt} {
		if s, e := m.Take(n); s != 0 || e != api.ErrFull {
			t.Errorf("Take(%d): %d, %d", n, s, e)
		}
	}
	for _, c := range [][2]int{{-1, 1}, {8, 1}, {7, 2}, {0, 0}, {0, -1}, {0, 9}, {1, math.MaxInt}, {math.MaxInt, math.MaxInt}, {math.MaxInt, 1}, {math.MinInt, math.MinInt}, {2, 7}, {-2, 4}} {
		if e := m.Claim(c[0], c[1]); e != api.ErrArg {
			t.Errorf("Claim(%d, %d): %d", c[0], c[1], e)
		}
		if e := m.Give(c[0], c[1]); e != api.ErrArg {
			t.Errorf("Give(%d, %d): %d", c[0], c[1], e)
		}
	}
	if e := m.Claim(0, 3); e != api.ErrHave {
		t.Errorf("Claim of one that is used: %d", e)
	}
	if e := m.Give(3, 2); e != api.ErrNone {
		t.Errorf("Give of one that is free: %d", e)
	}
	if runs(m) != "0+2 4+4 " || m.Used() != 2 {
		t.Errorf("what was refused has changed something: %s", runs(m))
	}
}

func TestFreeEndsEarly(t *testing.T) { // P9.2
	m := make1(t, 9)
	m.Claim(2, 1)
	m.Claim(5, 1)
	for start, n := range m.Free() {
		if start != 0 || n != 2 {
			t.Errorf("the first run: %d, %d", start, n)
		}
		break
	}
	if runs(m) != "0+2 3+2 6+3 " {
		t.Errorf("all runs: %s", runs(m))
	}
}

func TestCopy(t *testing.T) { // P9.2
	m := make1(t, 5)
	m.Claim(1, 2)
	c := m.Copy()
	if runs(c) != runs(m) || c.Used() != 2 {
		t.Errorf("Copy: %s", runs(c))
	}
	m.Claim(0, 1)
	c.Give(1, 2)
	if runs(m) != "3+2 " || runs(c) != "0+5 " {
		t.Errorf("they have something in common: %s, %s", runs(m), runs(c))
	}
}

func TestNil(t *testing.T) { // P9.2
	var m *extent.Map
	s, e := m.Take(1)
	if s != 0 || e != api.ErrArg || m.Claim(0, 1) != api.ErrArg || m.Give(0, 1) != api.ErrArg || m.Used() != 0 || runs(m) != "" || m.Copy() != nil {
		t.Error("a nil Map")
	}
}
