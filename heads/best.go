package heads

import (
	"slices"

	"wordhoard/api"
)

// best tree: each word hangs where that is worth the most; if that makes a
// ring, this is taken for one word, of a smaller tree (CHU, LIU, EDMONDS).
func best(score [][]int) []int {
	up := highest(score)
	word := ring(up)
	if word == 0 {
		return up
	}
	j := joinedOf(score, up, ringOf(up, word))
	j.open(up, best(j.score))
	return up
}

// highest tells of each word where it is worth the most that it hangs.
func highest(score [][]int) []int {
	up := make([]int, len(score)-1)
	for i := range up {
		for h := range score {
			if h != i+1 && score[h][i] > score[up[i]][i] {
				up[i] = h
			}
		}
	}
	return up
}

// joined are scores with a ring as the last word, behind those outside of it.
type joined struct {
	score   [][]int
	outside []int // 0, and the words outside of the ring
	into    []int // of each of these, which word of the ring hangs best on it
	outOf   []int // of each of these without 0, on which word of the ring it hangs best
}

// joinedOf scores: that a word of the ring hangs elsewhere is worth what it is
// worth more than that it hangs in the ring.
func joinedOf(score [][]int, up, ring []int) joined {
	var j joined
	for w := range score {
		if !slices.Contains(ring, w) {
			j.outside = append(j.outside, w)
		}
	}
	for _, h := range j.outside {
		var row []int
		for _, w := range j.outside[1:] {
			row = append(row, score[h][w-1])
		}
		more := func(w int) int { return score[h][w-1] - score[up[w-1]][w-1] }
		into := firstOfMost(ring, more)
		j.into = append(j.into, into)
		j.score = append(j.score, append(row, more(into)))
	}
	var row []int
	for _, w := range j.outside[1:] {
		from := firstOfMost(ring, func(h int) int { return score[h][w-1] })
		j.outOf = append(j.outOf, from)
		row = append(row, score[from][w-1])
	}
	j.score = append(j.score, append(row, 0))
	return j
}

// firstOfMost is the first one of those that are worth the most.
func firstOfMost(words []int, worth func(w int) int) int {
	first := words[0]
	for _, w := range words {
		if worth(w) > worth(first) {
			first = w
		}
	}
	return first
}

// open the ring: up has its words hang as in the ring, but for the one that hangs elsewhere in the small tree.
func (j joined) open(up, small []int) {
	last := len(small) - 1
	for i, h := range small[:last] {
		w := j.outside[i+1]
		if h == len(j.outside) {
			up[w-1] = j.outOf[i]
		} else {
			up[w-1] = j.outside[h]
		}
	}
	h := small[last]
	up[j.into[h]-1] = j.outside[h]
}

// less is more than two trees can differ in what they are worth.
const less = 2*api.MaxScore*api.MaxHang + 1

// fewOnRoot are scores by which a tree with fewer words on 0 is always worth
// more; and there is always one with just one such word.
func fewOnRoot(score [][]int) [][]int {
	few := slices.Clone(score)
	few[0] = slices.Clone(score[0])
	for i := range few[0] {
		few[0][i] -= less
	}
	return few
}
