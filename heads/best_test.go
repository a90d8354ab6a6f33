package heads

import (
	"fmt"
	"math"
	"slices"
	"testing"

	"wordhoard/api"
)

// H1
func TestCheck(t *testing.T) {
	const most = api.MaxScore
	full := func(words, n int) [][]int {
		score := make([][]int, words+1)
		for h := range score {
			score[h] = slices.Repeat([]int{n}, words)
		}
		return score
	}
	with := func(h, w, n int) [][]int {
		score := full(3, 0)
		score[h][w-1] = n
		return score
	}
	for _, c := range []struct {
		name  string
		score [][]int
		e     api.Errno
	}{
		{"nothing", nil, api.ErrMany},
		{"no rows", [][]int{}, api.ErrMany},
		{"a row too many", full(api.MaxHang+1, 0), api.ErrMany},
		{"a row too many, of nothing", make([][]int, api.MaxHang+2), api.ErrMany},
		{"a row too many, of wrong numbers", full(api.MaxHang+1, most+1), api.ErrMany},
		{"very many rows", make([][]int, 1<<20), api.ErrMany},
		{"rows of nothing", make([][]int, 2), api.ErrForm},
		{"no words, and a number", [][]int{{1}}, api.ErrForm},
		{"a number too many", [][]int{{1, 2}, {1}}, api.ErrForm},
		{"a number too few", [][]int{{1, 2}, {1, 2}, {1}}, api.ErrForm},
		{"as many as rows", [][]int{{1, 2}, {1, 2}}, api.ErrForm},
		{"wrong numbers ahead of a short row", [][]int{{most + 1, 0}, {0, most + 1}, {0}}, api.ErrForm},
		{"too high", with(1, 2, most+1), api.ErrRange},
		{"too low", with(3, 1, -most-1), api.ErrRange},
		{"too high on 0", with(0, 3, most+1), api.ErrRange},
		{"too high where no word hangs", with(2, 2, most+1), api.ErrRange},
		{"the highest there is", with(3, 3, math.MaxInt), api.ErrRange},
		{"the lowest there is", with(0, 1, math.MinInt), api.ErrRange},
		{"no words", [][]int{{}}, api.OK},
		{"no words, and nothing", [][]int{nil}, api.OK},
		{"as many words as may be, high", full(api.MaxHang, most), api.OK},
		{"as many words as may be, low", full(api.MaxHang, -most), api.OK},
	} {
		if e := Check(c.score); e != c.e {
			t.Errorf("%s: %d, not %d", c.name, e, c.e)
		}
		if c.e == api.OK {
			continue
		}
		for i, call := range []func([][]int) ([]int, int, api.Errno){Best, BestFlat, One} {
			if up, worth, e := call(c.score); up != nil || worth != 0 || e != c.e {
				t.Errorf("%s, call %d: %v %d %d", c.name, i, up, worth, e)
			}
		}
	}
}

// checkBest tells whether a call answers such a tree, which is worth the most.
func checkBest(t *testing.T, name string, score [][]int, call func([][]int) ([]int, int, api.Errno), isOne func(up []int) bool, want int) {
	t.Helper()
	up, worth, e := call(score)
	if e != api.OK || len(up) != len(score)-1 || !isOne(up) || worth != want || slowWorth(score, up) != want {
		t.Fatalf("%s of %v: %v %d %d, not %d", name, score, up, worth, e, want)
	}
}

// H2: against all trees.
func TestBestAgainstAllTrees(t *testing.T) {
	d := draw(1)
	for words := range 7 {
		var trees, flats, ones [][]int
		for _, up := range lists(words, 0, words) {
			if slowTree(up) {
				trees = append(trees, up)
			}
			if slowFlat(up) {
				flats = append(flats, up)
			}
			if slowOne(up) {
				ones = append(ones, up)
			}
		}
		apart := 0
		for range []int{1, 20, 500, 2000, 2000, 1000, 200}[words] {
			score := d.scores(words, d.scale())
			most, flat, one := mostOf(score, trees), mostOf(score, flats), mostOf(score, ones)
			checkBest(t, "Best", score, Best, slowTree, most)
			checkBest(t, "BestFlat", score, BestFlat, slowFlat, flat)
			checkBest(t, "One", score, One, slowOne, one)
			if most > flat && most > one {
				apart++
			}
		}
		if words > 3 && apart < 20 {
			t.Errorf("%d words: only %d times three answers", words, apart)
		}
	}
}

// H2: as many words as may be.
func TestBestOfTheGreatest(t *testing.T) {
	d := draw(2)
	for i := range 24 {
		words := api.MaxHang - 4 + i%3
		if i < 2 {
			words = api.MaxHang - i
		}
		score := d.scores(words, d.scale())
		most, one := slowSets(score)
		checkBest(t, "Best", score, Best, slowTree, most)
		checkBest(t, "One", score, One, slowOne, one)
	}
	for range 100 {
		score := d.scores(api.MaxHang, d.scale())
		checkBest(t, "BestFlat", score, BestFlat, slowFlat, slowSpans(score))
	}
}

// H2: rings out of rings: words hang best two by two, those pairs likewise, and so on.
func TestRingsOfRings(t *testing.T) {
	for _, words := range []int{2, 4, 8, 10} {
		score := make([][]int, words+1)
		for h := range score {
			for w := 1; w <= words; w++ {
				apart := 0
				for a, b := h-1, w-1; a != b && h > 0; a, b = a/2, b/2 {
					apart++
				}
				n := -1000*apart - 7*h*w%11
				if h == 0 {
					n = -api.MaxScore + 10*w
				}
				score[h] = append(score[h], n)
			}
		}
		most, one := slowSets(score)
		checkBest(t, "Best", score, Best, slowTree, most)
		checkBest(t, "One", score, One, slowOne, one)
		checkBest(t, "BestFlat", score, BestFlat, slowFlat, slowSpans(score))
	}
}

// H2: though it is worth the least that just one word hangs on 0, and the most that all do.
func TestOneAtAnyPrice(t *testing.T) {
	const most = api.MaxScore
	for words := 1; words <= api.MaxHang; words++ {
		score := make([][]int, words+1)
		for h := range score {
			score[h] = slices.Repeat([]int{-most}, words)
		}
		score[0] = slices.Repeat([]int{most}, words)
		checkBest(t, "Best", score, Best, slowTree, words*most)
		checkBest(t, "BestFlat", score, BestFlat, slowFlat, words*most)
		checkBest(t, "One", score, One, slowOne, (2-words)*most)
	}
}

// H2: of no words.
func TestNoWords(t *testing.T) {
	for i, call := range []func([][]int) ([]int, int, api.Errno){Best, BestFlat, One} {
		if up, worth, e := call([][]int{{}}); len(up) != 0 || worth != 0 || e != api.OK {
			t.Errorf("call %d: %v %d %d", i, up, worth, e)
		}
	}
}

// H2: the document's example.
func TestExample(t *testing.T) {
	up, worth, e := Best([][]int{{1, 5}, {0, 9}, {3, 0}})
	if !slices.Equal(up, []int{0, 1}) || worth != 10 || e != api.OK {
		t.Errorf("%v %d %d", up, worth, e)
	}
}

func answers(score [][]int, up []int) []any {
	a, x, e := Best(score)
	b, y, f := BestFlat(score)
	c, z, g := One(score)
	return []any{a, x, e, b, y, f, c, z, g, Tree(up), Flat(up), Check(score)}
}

// P2, P3: what is handed in is only read, and not kept, and the answers are the same each time.
func TestInputsAreOnlyRead(t *testing.T) {
	d := draw(3)
	for range 50 {
		score := d.scores(1+d.n(api.MaxHang), d.scale())
		for h := range score {
			score[h] = roomy(score[h], 77)
		}
		score = roomy(score, []int{77})
		up := roomy(d.tree(9), 77)
		whole := func() string {
			s := fmt.Sprint(up[:cap(up)])
			for _, row := range score[:cap(score)] {
				s += fmt.Sprint(row[:cap(row)])
			}
			return s
		}
		before := whole()
		first := answers(score, up)
		if now := whole(); now != before {
			t.Fatalf("it was\n%s\nand is\n%s", before, now)
		}
		said := fmt.Sprint(first...)
		for range 3 {
			if again := fmt.Sprint(answers(score, up)...); again != said {
				t.Fatalf("it says\n%s\nthen\n%s", said, again)
			}
		}
		for _, row := range score {
			clear(row)
		}
		if now := fmt.Sprint(first...); now != said {
			t.Fatalf("it said\n%s\nwhich is now\n%s", said, now)
		}
	}
}
