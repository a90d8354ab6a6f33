package numbers

import "math/bits"

// Common is the greatest number by which both can be divided (of 0 and b: b).
func Common(a, b Whole) Whole {
	if a.Against(b) < 0 {
		a, b = b, a
	}
	for len(b) > 1 {
		s := stepsOf(a, b)
		if s.b1 == 0 {
			_, rest := a.Over(b)
			a, b = b, rest
		} else {
			a, b = s.after(a, b)
		}
	}
	if len(b) == 0 {
		return a
	}
	_, rest := a.Over(b)
	x, y := b[0], uint64(0)
	if len(rest) > 0 {
		y = rest[0]
	}
	for y > 0 {
		x, y = y, x%y
	}
	return Whole{x}
}

// Least is the least number above 0 into which both, which are above 0, go.
func Least(a, b Whole) Whole {
	times, _ := b.Over(Common(a, b))
	return a.Times(times)
}

// steps tells what many steps of EUCLID make of a and b (LEHMER): a becomes
// a1 times a and b1 times b, one taken from the other, and b likewise by a2 and b2.
type steps struct {
	a1, b1, a2, b2 uint64
	even           bool
}

// stepsOf makes steps by the first 64 bits alone, as long as these are sure to
// tell them (JEBELEAN): b1 is 0 if they are not sure of one.
func stepsOf(a, b Whole) steps {
	x, y := firstBits(a, b)
	var s steps
	s.a1, s.b1, s.a2, s.b2 = 0, 0, 1, 0
	a3, b3 := uint64(0), uint64(1)
	for y >= b3 && x-y >= s.b2+b3 {
		times := x / y
		x, y = y, x%y
		s.a1, s.a2, a3 = s.a2, a3, s.a2+times*a3
		s.b1, s.b2, b3 = s.b2, b3, s.b2+times*b3
		s.even = !s.even
	}
	return s
}

// firstBits are the first 64 bits of a, of two words at least, and those of b that stand in the same places.
func firstBits(a, b Whole) (uint64, uint64) {
	n := len(a)
	up := bits.LeadingZeros64(a[n-1])
	word := func(i int) uint64 {
		if i < len(b) {
			return b[i]
		}
		return 0
	}
	return a[n-1]<<up | a[n-2]>>(64-up), word(n-1)<<up | word(n-2)>>(64-up)
}

// after tells what becomes of a and b.
func (s steps) after(a, b Whole) (Whole, Whole) {
	if s.even {
		return difference(a, s.a1, b, s.b1), difference(b, s.b2, a, s.a2)
	}
	return difference(b, s.b1, a, s.a1), difference(a, s.a2, b, s.b2)
}

// difference is a, so many times, without b, so many times.
func difference(a Whole, m uint64, b Whole, n uint64) Whole {
	d := make(Whole, max(len(a), len(b))+1)
	d[len(a)] = addTimes(d[:len(a)], a, m)
	over := takeTimes(d[:len(b)], b, n)
	takeFrom(d[len(b):], []uint64{over})
	return d.trimmed()
}
