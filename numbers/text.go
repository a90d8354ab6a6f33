package numbers

import (
	"math/bits"
	"strconv"
)

// digits and power: so many digits are the most that one word always holds.
const (
	digits = 19
	power  = 10_000_000_000_000_000_000
)

// Text is a in decimal.
func (a Whole) Text() string {
	var powers []Whole
	for p := (Whole{power}); p.Against(a) <= 0; p = p.Times(p) {
		powers = append(powers, p)
	}
	return string(a.tell(nil, powers))
}

// tell puts the digits of a behind others. Each power is the one ahead of it
// times itself, and a is below what would come next: so long numbers are halved.
func (a Whole) tell(text []byte, powers []Whole) []byte {
	if len(powers) == 0 {
		return a.tellWord(text)
	}
	last := len(powers) - 1
	high, low := a.Over(powers[last])
	if len(text) > 0 || !high.IsZero() {
		text = high.tell(text, powers[:last])
	}
	return low.tell(text, powers[:last])
}

// tellWord tells noughts ahead, where something stands ahead of them.
func (a Whole) tellWord(text []byte) []byte {
	word := uint64(0)
	if len(a) > 0 {
		word = a[0]
	}
	own := strconv.FormatUint(word, 10)
	if len(text) > 0 {
		for range digits - len(own) {
			text = append(text, '0')
		}
	}
	return append(text, own...)
}

// Read takes a number in decimal, without noughts ahead; false: it is none.
func Read(text string) (Whole, bool) {
	if text == "" || text[0] == '0' && len(text) > 1 {
		return nil, false
	}
	for i := range len(text) {
		if text[i] < '0' || text[i] > '9' {
			return nil, false
		}
	}
	return value(text), true
}

// value of digits, as many of them at a time as a word holds.
func value(text string) Whole {
	words := make(Whole, 0, len(text)/digits+1)
	for text != "" {
		n := (len(text)-1)%digits + 1
		carry := uint64(0)
		for i := range n {
			carry = carry*10 + uint64(text[i]-'0')
		}
		for i, w := range words {
			high, low := bits.Mul64(w, power)
			low, more := bits.Add64(low, carry, 0)
			words[i], carry = low, high+more
		}
		if carry > 0 {
			words = append(words, carry)
		}
		text = text[n:]
	}
	return words
}
