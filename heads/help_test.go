package heads

import (
	"slices"

	"wordhoard/api"
)

// draw tells numbers that look like chance, the same each time.
type draw uint64

func (d *draw) n(n int) int {
	*d = *d*6364136223846793005 + 1442695040888963407
	return int(uint64(*d) >> 33 % uint64(n))
}

// scores of so many words, from -most to most; those that are none of a tree are often high.
func (d *draw) scores(words, most int) [][]int {
	score := make([][]int, words+1)
	for h := range score {
		for range words {
			score[h] = append(score[h], d.n(2*most+1)-most)
		}
	}
	for w := range words {
		if d.n(2) == 0 {
			score[w+1][w] = most
		}
	}
	return score
}

// scale of scores: few different ones, so that many trees are worth the same, up to the highest.
func (d *draw) scale() int { return []int{0, 1, 3, 20, api.MaxScore}[d.n(5)] }

// lists of so many numbers from low to high.
func lists(long, low, high int) [][]int {
	all := [][]int{nil}
	for range long {
		var next [][]int
		for _, l := range all {
			for n := low; n <= high; n++ {
				next = append(next, append(slices.Clone(l), n))
			}
		}
		all = next
	}
	return all
}

// slowHangs tells whether a word hangs, going up, on another one (or on 0).
func slowHangs(up []int, w, on int) bool {
	for range len(up) {
		if w < 1 || w > len(up) {
			return false
		}
		if w = up[w-1]; w == on {
			return true
		}
	}
	return false
}

func slowTree(up []int) bool {
	for i := range up {
		if !slowHangs(up, i+1, 0) {
			return false
		}
	}
	return true
}

func slowFlat(up []int) bool {
	if !slowTree(up) {
		return false
	}
	for i, h := range up {
		for between := min(i+1, h) + 1; between < max(i+1, h); between++ {
			if !slowHangs(up, between, h) {
				return false
			}
		}
	}
	return true
}

func slowOne(up []int) bool {
	roots := 0
	for _, h := range up {
		if h == 0 {
			roots++
		}
	}
	return slowTree(up) && (roots == 1 || len(up) == 0)
}

func slowWorth(score [][]int, up []int) int {
	worth := 0
	for i, h := range up {
		worth += score[h][i]
	}
	return worth
}

// mostOf trees.
func mostOf(score [][]int, trees [][]int) int {
	most := slowWorth(score, trees[0])
	for _, up := range trees {
		most = max(most, slowWorth(score, up))
	}
	return most
}

// slowSets tells what the best tree is worth, and the best with one word on 0:
// worths[h][set] is what words of a set are worth that hang, going up, on h.
func slowSets(score [][]int) (int, int) {
	words := len(score) - 1
	worths := make([][]int, words+1)
	for h := range worths {
		worths[h] = make([]int, 1<<words)
	}
	under := func(h, set int) int { // the lowest branch, and all others
		low := set & -set
		most, found := 0, false
		for rest := set &^ low; ; rest = (rest - 1) & (set &^ low) {
			branch := set &^ rest
			for w := 1; w <= words; w++ {
				if bit := 1 << (w - 1); branch&bit != 0 {
					worth := score[h][w-1] + worths[w][branch&^bit] + worths[h][rest]
					if !found || worth > most {
						most, found = worth, true
					}
				}
			}
			if rest == 0 {
				return most
			}
		}
	}
	all := 1<<words - 1
	for set := 1; set <= all; set++ {
		for h := range worths {
			if h == 0 || set&(1<<(h-1)) == 0 {
				worths[h][set] = under(h, set)
			}
		}
	}
	one := score[0][0] + worths[1][all&^1]
	for w := 1; w <= words; w++ {
		one = max(one, score[0][w-1]+worths[w][all&^(1<<(w-1))])
	}
	return worths[0][all], one
}

// slowSpans tells what the best flat tree is worth: words side by side that
// hang on h fall apart into pieces, each of which hangs on a word in it.
func slowSpans(score [][]int) int {
	type piece struct{ from, to, on int }
	known := map[piece]int{}
	var worth func(p piece) int
	worth = func(p piece) int {
		if p.from > p.to {
			return 0
		}
		if most, ok := known[p]; ok {
			return most
		}
		most, found := 0, false
		for end := p.from; end <= p.to; end++ {
			for w := p.from; w <= end; w++ {
				sum := score[p.on][w-1] + worth(piece{p.from, w - 1, w}) + worth(piece{w + 1, end, w}) + worth(piece{end + 1, p.to, p.on})
				if !found || sum > most {
					most, found = sum, true
				}
			}
		}
		known[p] = most
		return most
	}
	return worth(piece{1, len(score) - 1, 0})
}

// roomy has the same elements, and room behind them with what nobody may change.
func roomy[T any](l []T, behind T) []T {
	all := append(slices.Clone(l), behind, behind, behind)
	return all[:len(l)]
}
