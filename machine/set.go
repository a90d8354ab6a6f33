package machine

import (
	"iter"
	"math/bits"
)

// A set of numbers from 0 on, a bit for each.
type set []uint64

// newSet is an empty set of numbers below n.
func newSet(n int) set { return make(set, (n+63)/64) }

// add tells whether n is new in s.
func (s set) add(n int) bool {
	bit := uint64(1) << (n % 64)
	isNew := s[n/64]&bit == 0
	s[n/64] |= bit
	return isNew
}

func (s set) has(n int) bool { return s[n/64]&(1<<(n%64)) != 0 }

// members go up.
func (s set) members() iter.Seq[int] {
	return func(yield func(int) bool) {
		for at, word := range s {
			for ; word != 0; word &= word - 1 {
				if !yield(at*64 + bits.TrailingZeros64(word)) {
					return
				}
			}
		}
	}
}

// key is the same for two sets (of numbers below one n) just if they are the
// same: a slice can't be a key of a map.
func (s set) key() string {
	key := make([]byte, 0, 8*len(s))
	for _, word := range s {
		for shift := 0; shift < 64; shift += 8 {
			key = append(key, byte(word>>shift))
		}
	}
	return string(key)
}
