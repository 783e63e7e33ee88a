package vec_test

import (
	"math"
	"testing"

	"wainscot/api"
	"wainscot/vec"
)

const (
	one  = 65536
	cell = 1 << 20
)

// numbers tells pseudo-random numbers, the same ones each time.
type numbers uint64

func (x *numbers) below(n int) int {
	*x ^= *x << 13
	*x ^= *x >> 7
	*x ^= *x << 17
	return int(uint64(*x) >> 1 % uint64(n))
}

func (x *numbers) mat(most int) api.Mat {
	var m api.Mat
	for i := range m {
		m[i] = x.below(2*most+1) - most
	}
	return m
}

// rounded is n over 65536, a half upward.
func rounded(n int) int { return (n + 32768) >> 16 }

func TestOne(t *testing.T) { // P2.1
	want := api.Mat{one, 0, 0, 0, 0, one, 0, 0, 0, 0, one, 0, 0, 0, 0, one}
	if vec.One() != want {
		t.Errorf("One: %v", vec.One())
	}
}

func TestMay(t *testing.T) { // P2.1
	for i := range 16 {
		for c, want := range map[int]bool{0: true, cell: true, -cell: true, cell + 1: false, -cell - 1: false, math.MinInt: false, math.MaxInt: false} {
			var m api.Mat
			m[i] = c
			if vec.May(m) != want {
				t.Errorf("May of cell %d: %d", i, c)
			}
		}
	}
}

func TestMul(t *testing.T) { // P2.1
	x := numbers(42)
	fit, over := 0, 0
	for _, most := range []int{3, 40000, 100000, 300000, cell} {
		for range 40 {
			m, n := x.mat(most), x.mat(most)
			var want api.Mat
			wantE := api.OK
			for r := range 4 {
				for c := range 4 {
					sum := m[4*r]*n[c] + m[4*r+1]*n[4+c] + m[4*r+2]*n[8+c] + m[4*r+3]*n[12+c]
					want[4*r+c] = rounded(sum)
				}
			}
			for _, c := range want {
				if c > cell || c < -cell {
					wantE = api.ErrOver
				}
			}
			if wantE != api.OK {
				want = api.Mat{}
				over++
			} else {
				fit++
			}
			if got, e := vec.Mul(m, n); got != want || e != wantE {
				t.Fatalf("Mul(%v, %v): %v, %d; want %v, %d", m, n, got, e, want, wantE)
			}
		}
	}
	if fit == 0 || over == 0 {
		t.Errorf("the test saw %d that fit, %d that do not", fit, over)
	}
}

func TestMulRoundsOnce(t *testing.T) { // P2.1
	m := api.Mat{1, 1, 1, 1}
	n := api.Mat{0: 16384, 4: 16384}
	if got, _ := vec.Mul(m, n); got[0] != 1 {
		t.Errorf("two quarters of a half: %d", got[0])
	}
	for c, want := range map[int]int{32767: 0, 32768: 1, -32769: -1, 98303: 1, 98304: 2} {
		if got, _ := vec.Mul(m, api.Mat{0: c}); got[0] != want {
			t.Errorf("%d over 65536: %d", c, got[0])
		}
	}
	n = api.Mat{0: -32768}
	if got, _ := vec.Mul(m, n); got[0] != 0 {
		t.Errorf("minus a half: %d", got[0])
	}
}

func TestMulRefuses(t *testing.T) { // P2.1
	for i := range 16 {
		var m api.Mat
		m[i] = cell + 1
		if got, e := vec.Mul(m, api.Mat{}); e != api.ErrOver || got != (api.Mat{}) {
			t.Errorf("Mul of a first one with %d: %v, %d", m[i], got, e)
		}
		if got, e := vec.Mul(api.Mat{}, m); e != api.ErrOver || got != (api.Mat{}) {
			t.Errorf("Mul of a second one with %d: %v, %d", m[i], got, e)
		}
	}
	m := api.Mat{0: cell}
	if got, e := vec.Mul(m, api.Mat{0: one}); e != api.OK || got[0] != cell {
		t.Errorf("Mul at the limit: %v, %d", got, e)
	}
	if got, e := vec.Mul(m, api.Mat{0: one + 1}); e != api.ErrOver || got != (api.Mat{}) {
		t.Errorf("Mul beyond the limit: %v, %d", got, e)
	}
}

func TestApply(t *testing.T) { // P2.2
	x := numbers(7)
	for range 200 {
		m := x.mat(cell)
		var v, want api.Vec
		for i := range v {
			v[i] = x.below(1<<29+1) - 1<<28
		}
		for r := range 4 {
			want[r] = rounded(m[4*r]*v[0] + m[4*r+1]*v[1] + m[4*r+2]*v[2] + m[4*r+3]*v[3])
		}
		if got, e := vec.Apply(m, v); got != want || e != api.OK {
			t.Fatalf("Apply(%v, %v): %v, %d; want %v", m, v, got, e, want)
		}
	}
}

func TestApplyRefuses(t *testing.T) { // P2.2
	for i := range 4 {
		for n, want := range map[int]api.Errno{1 << 28: api.OK, -1 << 28: api.OK, 1<<28 + 1: api.ErrOver, -1<<28 - 1: api.ErrOver, math.MinInt: api.ErrOver} {
			var v api.Vec
			v[i] = n
			got, e := vec.Apply(vec.One(), v)
			if e != want || e == api.OK && got != v || e != api.OK && got != (api.Vec{}) {
				t.Errorf("Apply of %v: %v, %d", v, got, e)
			}
		}
	}
	for i := range 16 {
		m := vec.One()
		m[i] = -cell - 1
		if got, e := vec.Apply(m, api.Vec{1, 1, 1, 1}); e != api.ErrOver || got != (api.Vec{}) {
			t.Errorf("Apply of a cell %d: %v, %d", i, got, e)
		}
	}
	all := api.Mat{cell, cell, cell, cell}
	if got, e := vec.Apply(all, api.Vec{1 << 28, 1 << 28, 1 << 28, 1 << 28}); e != api.OK || got[0] != 1<<34 {
		t.Errorf("Apply of the greatest: %v, %d", got, e)
	}
}

func TestMoveAndStretch(t *testing.T) { // P2.2
	if got, e := vec.Move(1, -2, cell); e != api.OK || got != (api.Mat{one, 0, 0, 1, 0, one, 0, -2, 0, 0, one, cell, 0, 0, 0, one}) {
		t.Errorf("Move: %v, %d", got, e)
	}
	if got, e := vec.Stretch(1, -cell, 3); e != api.OK || got != (api.Mat{1, 0, 0, 0, 0, -cell, 0, 0, 0, 0, 3, 0, 0, 0, 0, one}) {
		t.Errorf("Stretch: %v, %d", got, e)
	}
	for i := range 3 {
		for _, n := range []int{cell + 1, -cell - 1, math.MinInt} {
			var p [3]int
			p[i] = n
			if got, e := vec.Move(p[0], p[1], p[2]); e != api.ErrOver || got != (api.Mat{}) {
				t.Errorf("Move of %v: %v, %d", p, got, e)
			}
			if got, e := vec.Stretch(p[0], p[1], p[2]); e != api.ErrOver || got != (api.Mat{}) {
				t.Errorf("Stretch of %v: %v, %d", p, got, e)
			}
		}
	}
	m, _ := vec.Move(one, 0, 0)
	if got, e := vec.Apply(m, api.Vec{0, 0, 0, one}); e != api.OK || got != (api.Vec{one, 0, 0, one}) {
		t.Errorf("the document's example: %v, %d", got, e)
	}
}

func TestOneChangesNothing(t *testing.T) { // P2.3
	x := numbers(99)
	for range 50 {
		m := x.mat(cell)
		left, e1 := vec.Mul(vec.One(), m)
		right, e2 := vec.Mul(m, vec.One())
		if left != m || right != m || e1 != api.OK || e2 != api.OK {
			t.Fatalf("One times %v: %v, %v", m, left, right)
		}
		v := api.Vec{m[0], m[5], m[9], m[14]}
		if got, e := vec.Apply(vec.One(), v); got != v || e != api.OK {
			t.Fatalf("One of %v: %v, %d", v, got, e)
		}
	}
}

func TestApplyOfAMul(t *testing.T) { // P2.3
	x := numbers(5)
	for range 100 {
		m, n := x.mat(2*one), x.mat(one)
		v := api.Vec{x.below(one), x.below(one), x.below(one), one}
		mn, e := vec.Mul(m, n)
		if e != api.OK {
			t.Fatal(e)
		}
		inner, _ := vec.Apply(n, v)
		both, _ := vec.Apply(m, inner)
		got, _ := vec.Apply(mn, v)
		for i := range got {
			if d := got[i] - both[i]; d < -8 || d > 8 {
				t.Fatalf("Apply of a Mul: %v, of both: %v", got, both)
			}
		}
	}
}
