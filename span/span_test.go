package span

import "testing"

// cuts are all ways to cut a piece into so many parts of a word at least: where each part ends.
func cuts(from, to, parts int) [][]int {
	if parts == 0 {
		if from == to {
			return [][]int{nil}
		}
		return nil
	}
	var all [][]int
	for end := from + 1; end <= to; end++ {
		for _, rest := range cuts(end, to, parts-1) {
			all = append(all, append([]int{end}, rest...))
		}
	}
	return all
}

// A part may end just where a cut of the piece has its end.
func TestEnds(t *testing.T) {
	for from := range 6 {
		for to := range 8 {
			for behind := range 6 {
				met := map[int]int{}
				for _, cut := range cuts(from, to, behind+1) {
					met[cut[0]]++
				}
				first, last := Ends(from, to, behind)
				for end := first; end <= last; end++ {
					if met[end] == 0 {
						t.Errorf("%d to %d, %d behind: no cut at %d", from, to, behind, end)
					}
					delete(met, end)
				}
				if len(met) > 0 {
					t.Errorf("%d to %d, %d behind: from %d to %d, and %v are lacking", from, to, behind, first, last, met)
				}
			}
		}
	}
}

func TestIsWord(t *testing.T) {
	text := []int{1, 2, 1}
	for part := -3; part <= 3; part++ {
		for from := range text {
			for to := from; to <= len(text); to++ {
				want := to-from == 1 && part == [3]int{-1, -2, -1}[from]
				if got := IsWord(text, part, from, to); got != want {
					t.Errorf("part %d from %d to %d: %v", part, from, to, got)
				}
			}
		}
	}
}
