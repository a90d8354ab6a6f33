package spell

import (
	"slices"
	"strings"
	"unicode/utf8"

	"wordhoard/api"
)

// draw tells numbers that look like chance, the same each time.
type draw uint64

func (d *draw) n(n int) int {
	*d = *d*6364136223846793005 + 1442695040888963407
	return int(uint64(*d) >> 33 % uint64(n))
}

// text has at most so many parts, of few kinds, so that texts are often near:
// letters of each length, strays, and strays of which letters come if they are joined.
func (d *draw) text(most int) string {
	parts := []string{"a", "b", "\u00e9", "\u20ac", "\U0001f600", "\ufffd", "\xff", "\xfe", "\xc3", "\xa9", "\xe2\x82", "\xac"}
	few := 1 + d.n(len(parts))
	var b strings.Builder
	for range d.n(most + 1) {
		b.WriteString(parts[d.n(few)])
	}
	return b.String()
}

func (d *draw) texts(count, most int) []string {
	var all []string
	for range count {
		all = append(all, d.text(most))
	}
	return all
}

// slowUnits cuts a text by the library.
func slowUnits(s string) []string {
	var all []string
	for s != "" {
		_, n := utf8.DecodeRuneInString(s)
		all, s = append(all, s[:n]), s[n:]
	}
	return all
}

// slowFar tells how far all beginnings are apart, each by what an edit asks for.
func slowFar(a, b string) int {
	from, to := slowUnits(a), slowUnits(b)
	table := make([][]int, len(from)+1)
	for i := range table {
		table[i] = make([]int, len(to)+1)
		for j := range table[i] {
			far := i + j
			if i > 0 {
				far = min(far, table[i-1][j]+1)
			}
			if j > 0 {
				far = min(far, table[i][j-1]+1)
			}
			if i > 0 && j > 0 {
				far = min(far, table[i-1][j-1]+1)
				if from[i-1] == to[j-1] {
					far = min(far, table[i-1][j-1])
				}
			}
			table[i][j] = far
		}
	}
	return table[len(from)][len(to)]
}

func slowNear(words []string, a string, most int) []api.Close {
	var near []api.Close
	for far := range most + 1 {
		for i, w := range words {
			if slowFar(a, w) == far {
				near = append(near, api.Close{Word: i, Far: far})
			}
		}
	}
	return near
}

// costOf edits.
func costOf(l []api.Edit) int {
	cost := 0
	for _, edit := range l {
		if edit.Kind != api.EditKeep {
			cost++
		}
	}
	return cost
}

// edits of one kind and text.
func edits(n, kind int, text string) []api.Edit {
	return slices.Repeat([]api.Edit{{Kind: kind, Text: text}}, n)
}

// roomy has the same elements, and room behind them with what nobody may change.
func roomy[T any](l []T, behind T) []T {
	all := append(slices.Clone(l), behind, behind, behind)
	return all[:len(l)]
}
