package heads

import (
	"math"
	"slices"
	"testing"
)

// H: against going up, word by word, of all short lists.
func TestTreeAndFlat(t *testing.T) {
	trees, flats := 0, 0
	for words := range 6 {
		for _, up := range lists(words, -1, words+1) {
			tree, flat := slowTree(up), slowFlat(up)
			if Tree(up) != tree || Flat(up) != flat {
				t.Fatalf("%v: %v %v, not %v %v", up, Tree(up), Flat(up), tree, flat)
			}
			if tree {
				trees++
			}
			if flat {
				flats++
			}
		}
	}
	if trees != 1+1+3+16+125+1296 || flats != 1+1+3+12+55+273 {
		t.Errorf("%d trees, %d flat ones", trees, flats)
	}
}

// H: longer lists: such as are often trees, and often flat.
func TestTreeAndFlatOfLongOnes(t *testing.T) {
	d := draw(1)
	var seen [3]int
	for range 20000 {
		up := d.tree(6 + d.n(15))
		for range d.n(3) {
			up[d.n(len(up))] = d.n(len(up) + 1)
		}
		tree, flat := slowTree(up), slowFlat(up)
		if Tree(up) != tree || Flat(up) != flat {
			t.Fatalf("%v: %v %v, not %v %v", up, Tree(up), Flat(up), tree, flat)
		}
		switch {
		case flat:
			seen[0]++
		case tree:
			seen[1]++
		default:
			seen[2]++
		}
	}
	if slices.Min(seen[:]) < 1000 {
		t.Errorf("only %v", seen)
	}
}

// tree that is flat: a word hangs on one of those beside its piece.
func (d *draw) tree(words int) []int {
	up := make([]int, words)
	var hang func(from, to, on int)
	hang = func(from, to, on int) {
		for from <= to {
			end := from + d.n(to-from+1)
			w := from + d.n(end-from+1)
			up[w-1] = on
			hang(from, w-1, w)
			hang(w+1, end, w)
			from = end + 1
		}
	}
	hang(1, words, 0)
	return up
}

// H, P1: numbers that are no words.
func TestTreeOfWrongOnes(t *testing.T) {
	for _, up := range [][]int{{-1}, {2}, {1}, {math.MaxInt}, {math.MinInt}, {0, 0, 4}, {0, -1, 2}, {0, math.MinInt, 1}, {2, math.MaxInt}, {2, 1}, {2, 3, 1}, {0, 3, 2}, {0, 1, 3}} {
		if Tree(up) || Flat(up) {
			t.Errorf("%v: %v %v", up, Tree(up), Flat(up))
		}
	}
	for _, up := range [][]int{nil, {}, {0}, {0, 0}, {2, 0}} {
		if !Tree(up) || !Flat(up) {
			t.Errorf("%v: %v %v", up, Tree(up), Flat(up))
		}
	}
}

// P1, P4: as long as a list may well be: each on the one ahead, on the one behind, all on the last, and two by two.
func TestTreeOfVeryLongOnes(t *testing.T) {
	const words = 1 << 20
	ahead, behind, last, ring, cross := make([]int, words), make([]int, words), make([]int, words), make([]int, words), make([]int, words)
	for i := range words {
		ahead[i], behind[i], last[i], ring[i] = i, (i+2)%(words+1), words, i
		cross[i] = max(0, i-1)
	}
	last[words-1], ring[0] = 0, words
	for _, c := range []struct {
		name       string
		up         []int
		tree, flat bool
	}{
		{"ahead", ahead, true, true},
		{"behind", behind, true, true},
		{"last", last, true, true},
		{"ring", ring, false, false},
		{"cross", cross, true, false},
	} {
		if Tree(c.up) != c.tree || Flat(c.up) != c.flat {
			t.Errorf("%s: %v %v", c.name, Tree(c.up), Flat(c.up))
		}
	}
}
