package numbers

import (
	"math"
	"math/bits"
)

// Over tells how often b, which is above 0, goes into a, and what is left.
func (a Whole) Over(b Whole) (Whole, Whole) {
	switch {
	case a.Against(b) < 0:
		return nil, a
	case len(b) == 1:
		return a.overWord(b[0])
	}
	// The highest bit of b is set, so that its first words tell nearly how often it goes.
	up := bits.LeadingZeros64(b[len(b)-1])
	left, by := a.shiftedUp(up), b.shiftedUp(up)[:len(b)]
	times := make(Whole, len(a)-len(b)+1)
	for i := len(times) - 1; i >= 0; i-- {
		times[i] = takeMost(left[i:i+len(b)+1], by)
	}
	return times.trimmed(), left[:len(b)].shiftedDown(up).trimmed()
}

func (a Whole) overWord(b uint64) (Whole, Whole) {
	times, left := make(Whole, len(a)), uint64(0)
	for i := len(a) - 1; i >= 0; i-- {
		times[i], left = bits.Div64(left, a[i], b)
	}
	return times.trimmed(), Whole{left}.trimmed()
}

// shiftedUp has one word more, 0 or not.
func (a Whole) shiftedUp(n int) Whole {
	up := make(Whole, len(a)+1)
	for i, w := range a {
		up[i] |= w << n
		up[i+1] = w >> (64 - n)
	}
	return up
}

func (a Whole) shiftedDown(n int) Whole {
	down := make(Whole, len(a))
	for i, w := range a {
		down[i] = w >> n
		if i > 0 {
			down[i-1] |= w << (64 - n)
		}
	}
	return down
}

// takeMost takes by from left as often as it goes, and tells how often: left has
// one word more, and it goes no more often than a word can tell.
func takeMost(left, by []uint64) uint64 {
	n := len(by)
	times := guess(left, by)
	lack := takeTimes(left[:n], by, times)
	left[n], lack = bits.Sub64(left[n], lack, 0)
	if lack > 0 {
		times--
		left[n] += addTo(left[:n], by)
	}
	return times
}

// guess tells how often by goes into left, by the first words of both: so often, or once less (KNUTH).
func guess(left, by []uint64) uint64 {
	n := len(by)
	first, second := by[n-1], by[n-2]
	if left[n] >= first {
		return math.MaxUint64
	}
	times, rest := bits.Div64(left[n], left[n-1], first)
	for {
		high, low := bits.Mul64(times, second)
		if high < rest || high == rest && low <= left[n-2] {
			return times
		}
		times--
		more := rest + first
		if more < rest {
			return times
		}
		rest = more
	}
}
