// Package numbers: whole numbers from 0 on, as great as they come, and fractions of them.
package numbers

import (
	"cmp"
	"math/bits"
)

// Whole is a number from 0 on: its words of 64 bits from the lowest on, the
// last of them not 0. What was made is not changed, so that several may share it.
type Whole []uint64

// Of a number from 0 on.
func Of(n int) Whole { return Whole{uint64(n)}.trimmed() }

func (a Whole) trimmed() Whole {
	for len(a) > 0 && a[len(a)-1] == 0 {
		a = a[:len(a)-1]
	}
	return a
}

// IsZero tells whether a is 0.
func (a Whole) IsZero() bool { return len(a) == 0 }

// IsOne tells whether a is 1.
func (a Whole) IsOne() bool { return len(a) == 1 && a[0] == 1 }

// Against tells whether a is below b (-1), the same (0), or above it (1).
func (a Whole) Against(b Whole) int {
	if len(a) != len(b) {
		return cmp.Compare(len(a), len(b))
	}
	for i := len(a) - 1; i >= 0; i-- {
		if a[i] != b[i] {
			return cmp.Compare(a[i], b[i])
		}
	}
	return 0
}

// Plus is the sum.
func (a Whole) Plus(b Whole) Whole {
	if len(a) < len(b) {
		a, b = b, a
	}
	sum := make(Whole, len(a)+1)
	copy(sum, a)
	addTo(sum, b)
	return sum.trimmed()
}

// Minus is what is left of a without b, which is not above it.
func (a Whole) Minus(b Whole) Whole {
	left := make(Whole, len(a))
	copy(left, a)
	takeFrom(left, b)
	return left.trimmed()
}

// addTo adds b to sum, which is as long at least, and tells what is carried out of it.
func addTo(sum, b []uint64) uint64 {
	carry := uint64(0)
	for i, w := range b {
		sum[i], carry = bits.Add64(sum[i], w, carry)
	}
	for i := len(b); i < len(sum) && carry > 0; i++ {
		sum[i], carry = bits.Add64(sum[i], 0, carry)
	}
	return carry
}

// takeFrom takes b from left, which is as long at least, and tells what is lacking above it.
func takeFrom(left, b []uint64) uint64 {
	lack := uint64(0)
	for i, w := range b {
		left[i], lack = bits.Sub64(left[i], w, lack)
	}
	for i := len(b); i < len(left) && lack > 0; i++ {
		left[i], lack = bits.Sub64(left[i], 0, lack)
	}
	return lack
}

// addTimes adds b, so many times, to sum, which is as long, and tells what is carried out of it.
func addTimes(sum, b []uint64, times uint64) uint64 {
	over := uint64(0)
	for i, w := range b {
		high, low := bits.Mul64(w, times)
		low, carry := bits.Add64(low, over, 0)
		high += carry
		sum[i], carry = bits.Add64(sum[i], low, 0)
		over = high + carry
	}
	return over
}

// takeTimes takes b, so many times, from left, which is as long, and tells what is lacking above it.
func takeTimes(left, b []uint64, times uint64) uint64 {
	over := uint64(0)
	for i, w := range b {
		high, low := bits.Mul64(w, times)
		low, carry := bits.Add64(low, over, 0)
		high += carry
		left[i], carry = bits.Sub64(left[i], low, 0)
		over = high + carry
	}
	return over
}

// short is how many words a number has at most that is multiplied word by word.
const short = 40

// Times is the product.
func (a Whole) Times(b Whole) Whole {
	if len(a) < len(b) {
		a, b = b, a
	}
	product := make(Whole, len(a)+len(b))
	if len(b) <= short {
		for i, w := range b {
			product[i+len(a)] = addTimes(product[i:i+len(a)], a, w)
		}
		return product.trimmed()
	}
	for at := 0; at < len(a); at += len(b) {
		piece := a[at:min(at+len(b), len(a))].trimmed()
		addTo(product[at:], piece.timesLong(b))
	}
	return product.trimmed()
}

// timesLong is the product of b and of a number that is not longer: three
// products of halves (KARATSUBA) do what word by word takes four.
func (a Whole) timesLong(b Whole) Whole {
	half := (len(b) + 1) / 2
	if len(a) <= half {
		return a.Times(b)
	}
	aLow, aHigh := a[:half].trimmed(), a[half:]
	bLow, bHigh := b[:half].trimmed(), b[half:]
	low, high := aLow.Times(bLow), aHigh.Times(bHigh)
	middle := aLow.Plus(aHigh).Times(bLow.Plus(bHigh)).Minus(low).Minus(high)
	product := make(Whole, len(a)+len(b))
	copy(product, low)
	addTo(product[half:], middle)
	addTo(product[2*half:], high)
	return product.trimmed()
}
