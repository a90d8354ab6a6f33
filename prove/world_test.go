package prove

import (
	"math"
	"testing"

	"wordhoard/api"
)

// wrongClaims, each of which has no literal somewhere.
func wrongClaims() []api.Claim {
	var l []api.Claim
	for _, n := range []int{0, api.MaxNouns + 1, -api.MaxNouns - 1, math.MaxInt, math.MinInt} {
		l = append(l, api.Claim{A: n, B: 1}, api.Claim{A: 1, B: n}, api.Claim{Some: true, A: n, B: -2}, api.Claim{Some: true, A: -2, B: n}, api.Claim{A: n, B: n})
	}
	return l
}

// K1
func TestCheck(t *testing.T) {
	for _, c := range allClaims(api.MaxNouns) {
		if e := Check(c); e != api.OK {
			t.Errorf("%v: %d", c, e)
		}
	}
	for _, c := range wrongClaims() {
		if e := Check(c); e != api.ErrRange {
			t.Errorf("%v: %d", c, e)
		}
	}
}

// K1: all claims in all worlds of one individual, and in worlds of many.
func TestHolds(t *testing.T) {
	worlds := [][]int{nil, {}}
	for who := range 1 << api.MaxNouns {
		worlds = append(worlds, []int{who})
	}
	d := draw(1)
	for range 200 {
		var world []int
		for range d.n(api.MaxWorld + 1) {
			world = append(world, d.n(1<<(1+d.n(api.MaxNouns))))
		}
		worlds = append(worlds, world)
	}
	for _, world := range worlds {
		for _, c := range allClaims(api.MaxNouns) {
			if ok, e := Holds(world, c); ok != slowHolds(world, c) || e != api.OK {
				t.Fatalf("%v %v: %v %d", world, c, ok, e)
			}
		}
	}
}

// K1: what the bits of an individual say, and the empty world.
func TestHoldsAsSaid(t *testing.T) {
	for _, x := range []struct {
		world []int
		c     api.Claim
		want  bool
	}{
		{[]int{1}, some(1, 1), true},
		{[]int{1}, some(2, 2), false},
		{[]int{1}, some(1, -2), true},
		{[]int{32}, some(6, 6), true},
		{[]int{31}, some(6, 6), false},
		{[]int{31}, all(6, -6), true},
		{[]int{0}, all(-1, -6), true},
		{[]int{0}, all(-1, 6), false},
		{[]int{3, 2}, all(1, 2), true},
		{[]int{3, 2}, all(2, 1), false},
		{[]int{1, 2}, some(1, 2), false},
		{nil, all(1, -1), true},
		{nil, all(-1, 1), true},
		{nil, some(1, 1), false},
		{nil, some(-1, -1), false},
	} {
		if ok, e := Holds(x.world, x.c); ok != x.want || e != api.OK {
			t.Errorf("%v %v: %v %d", x.world, x.c, ok, e)
		}
	}
}

// K1, P1: ErrMany ahead of ErrRange of an individual, that ahead of what Check says.
func TestHoldsErrors(t *testing.T) {
	many := make([]int, api.MaxWorld+1)
	manyOff := make([]int, api.MaxWorld+1)
	manyOff[3] = -1
	full := make([]int, api.MaxWorld)
	fullOff := make([]int, api.MaxWorld)
	fullOff[api.MaxWorld-1] = 1 << api.MaxNouns
	for _, x := range []struct {
		world []int
		c     api.Claim
		e     api.Errno
	}{
		{many, all(1, 1), api.ErrMany},
		{many, all(0, 1), api.ErrMany},
		{manyOff, all(1, 1), api.ErrMany},
		{make([]int, 1<<20), all(1, 1), api.ErrMany},
		{full, all(1, 1), api.OK},
		{full, all(1, 0), api.ErrRange},
		{fullOff, all(1, 1), api.ErrRange},
		{[]int{-1}, all(1, 1), api.ErrRange},
		{[]int{math.MinInt}, all(1, 1), api.ErrRange},
		{[]int{math.MaxInt}, all(1, 1), api.ErrRange},
		{[]int{0, 63, 64}, all(1, 1), api.ErrRange},
		{[]int{0, 63}, all(1, 1), api.OK},
		{nil, all(7, 1), api.ErrRange},
	} {
		if ok, e := Holds(x.world, x.c); e != x.e || e != api.OK && ok {
			t.Errorf("%d individuals, %v: %v %d, not %d", len(x.world), x.c, ok, e, x.e)
		}
	}
	for _, c := range wrongClaims() {
		if ok, e := Holds([]int{1}, c); ok || e != api.ErrRange {
			t.Errorf("%v: %v %d", c, ok, e)
		}
	}
}
