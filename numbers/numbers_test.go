package numbers

import (
	"math/big"
	"strings"
	"testing"
)

// draw tells numbers that look like chance, the same each time.
type draw uint64

func (d *draw) n(n int) int {
	*d = *d*6364136223846793005 + 1442695040888963407
	return int(uint64(*d) >> 33 % uint64(n))
}

// whole has at most so many words; often such of only ones or noughts, where carries go far.
func (d *draw) whole(most int) Whole {
	a := make(Whole, d.n(most+1))
	few := d.n(3)
	for i := range a {
		switch {
		case few == 0 || d.n(4) == 0:
			a[i] = uint64(d.n(1<<31))<<33 ^ uint64(d.n(1<<31))<<11 ^ uint64(d.n(1<<31))
		case few == 1:
			a[i] = ^uint64(0)
		}
	}
	if len(a) > 0 && d.n(3) == 0 {
		a[len(a)-1] >>= d.n(64)
	}
	return a.trimmed()
}

// bigOf is the library's number.
func bigOf(a Whole) *big.Int {
	n := new(big.Int)
	for i := len(a) - 1; i >= 0; i-- {
		n.Lsh(n, 64).Or(n, new(big.Int).SetUint64(a[i]))
	}
	return n
}

func same(t *testing.T, what string, got Whole, want *big.Int) {
	t.Helper()
	if len(got) > 0 && got[len(got)-1] == 0 {
		t.Fatalf("%s: a word of 0 at the end", what)
	}
	if bigOf(got).Cmp(want) != 0 {
		t.Fatalf("%s: it is %v and must be %v", what, bigOf(got), want)
	}
}

func TestSumsAndProductsAreTheLibrarys(t *testing.T) {
	d := draw(1)
	for i := range 30000 {
		most := 6
		if i%100 == 0 {
			most = 400
		}
		a, b := d.whole(most), d.whole(most)
		x, y := bigOf(a), bigOf(b)
		same(t, "Plus", a.Plus(b), new(big.Int).Add(x, y))
		same(t, "Times", a.Times(b), new(big.Int).Mul(x, y))
		if a.Against(b) != x.Cmp(y) {
			t.Fatalf("Against of %v and %v", x, y)
		}
		if a.Against(b) >= 0 {
			same(t, "Minus", a.Minus(b), new(big.Int).Sub(x, y))
		}
		same(t, "a stays", a, x)
		same(t, "b stays", b, y)
	}
}

func TestDivisionIsTheLibrarys(t *testing.T) {
	d := draw(2)
	for range 60000 {
		a, b := d.whole(9), d.whole(5)
		if b.IsZero() {
			continue
		}
		if d.n(3) == 0 { // just at, or just below, a multiple
			a = a.Times(b)
			if d.n(2) == 0 && !a.IsZero() {
				a = a.Minus(Of(1))
			}
		}
		x, y := bigOf(a), bigOf(b)
		times, rest := a.Over(b)
		q, r := new(big.Int).QuoRem(x, y, new(big.Int))
		same(t, "Over", times, q)
		same(t, "what is left", rest, r)
		same(t, "a stays", a, x)
		same(t, "b stays", b, y)
	}
}

// Such words make the guess of how often a number goes too high.
func TestDivisionWhereTheGuessIsTooHigh(t *testing.T) {
	words := []uint64{0, 1, 2, 1<<63 - 1, 1 << 63, 1<<63 + 1, 1<<64 - 2, 1<<64 - 1}
	for _, b0 := range words {
		for _, b1 := range words {
			for _, b2 := range words {
				for i := range 8 * 8 * 8 * 8 {
					a := Whole{words[i&7], words[i>>3&7], words[i>>6&7], words[i>>9&7]}.trimmed()
					b := Whole{b0, b1, b2}.trimmed()
					if b.IsZero() {
						continue
					}
					times, rest := a.Over(b)
					q, r := new(big.Int).QuoRem(bigOf(a), bigOf(b), new(big.Int))
					same(t, "Over", times, q)
					same(t, "what is left", rest, r)
				}
			}
		}
	}
}

func TestCommonIsTheLibrarys(t *testing.T) {
	d := draw(3)
	for i := range 30000 {
		most := 4
		if i%100 == 0 {
			most = 60
		}
		a, b, c := d.whole(most), d.whole(most), d.whole(most)
		if d.n(2) == 0 {
			a, b = a.Times(c), b.Times(c)
		}
		x, y := bigOf(a), bigOf(b)
		common := new(big.Int).GCD(nil, nil, x, y)
		same(t, "Common", Common(a, b), common)
		if !a.IsZero() && !b.IsZero() {
			same(t, "Least", Least(a, b), new(big.Int).Div(new(big.Int).Mul(x, y), common))
		}
		same(t, "a stays", a, x)
		same(t, "b stays", b, y)
	}
}

func TestTextsAreTheLibrarys(t *testing.T) {
	d := draw(4)
	for i := range 5000 {
		most := 6
		if i%100 == 0 {
			most = 300
		}
		a := d.whole(most)
		if d.n(3) == 0 { // many noughts, and just below them
			a, _ = Read("1" + strings.Repeat("0", d.n(90)))
			a = a.Times(Of(1 + d.n(3)))
			if d.n(2) == 0 {
				a = a.Minus(Of(1))
			}
		}
		want := bigOf(a).String()
		if got := a.Text(); got != want {
			t.Fatalf("Text: it is %s and must be %s", got, want)
		}
		back, ok := Read(want)
		if !ok {
			t.Fatalf("Read of %s", want)
		}
		same(t, "Read", back, bigOf(a))
	}
}

func TestReadTakesOnlyDecimal(t *testing.T) {
	for _, s := range []string{"", "00", "01", "-1", "+1", " 1", "1 ", "1_0", "0x1", "1.0", "a", "12345678901234567890123a", "\u0663", "/", ":"} {
		if n, ok := Read(s); ok || n != nil {
			t.Errorf("%q is read as %v", s, n)
		}
	}
	for _, s := range []string{"0", "1", "9", "10", "18446744073709551615", "18446744073709551616", "10000000000000000000", "9999999999999999999"} {
		if n, ok := Read(s); !ok || n.Text() != s {
			t.Errorf("%q is read as %v", s, n)
		}
	}
}

func TestFractions(t *testing.T) {
	for _, c := range []struct {
		top, bottom int
		want        string
	}{{0, 1, "0/1"}, {0, 7, "0/1"}, {1, 1, "1/1"}, {6, 3, "2/1"}, {2, 4, "1/2"}, {35, 21, "5/3"}} {
		if got := Part(Of(c.top), Of(c.bottom)).Text(); got != c.want {
			t.Errorf("%d over %d is %s", c.top, c.bottom, got)
		}
		if f, ok := ReadFraction(c.want); !ok || f.Text() != c.want {
			t.Errorf("%s is not read back", c.want)
		}
	}
	for _, s := range []string{"", "/", "1", "1/", "/1", "1/0", "0/0", "0/2", "2/4", "01/2", "1/02", "1/2/1", "1//2", "-1/2", "1/-2", " 1/2", "1/2 ", "1 /2", "1.0/2", "36893488147419103232/18446744073709551616"} {
		if f, ok := ReadFraction(s); ok {
			t.Errorf("%q is read as %s", s, f.Text())
		}
	}
}
