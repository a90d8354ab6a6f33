package reader

import (
	"slices"
	"strings"
	"unicode/utf8"

	"wordhoard/api"
)

// draw tells numbers that look like chance, the same each time.
type draw uint64

func (d *draw) n(n int) int {
	*d = *d*6364136223846793005 + 1442695040888963407
	return int(uint64(*d) >> 33 % uint64(n))
}

// pick one of some texts.
func (d *draw) pick(l ...string) string { return l[d.n(len(l))] }

// small letters, of one to four bytes; the last one has no great one.
func small() []string {
	return []string{"a", "b", "c", "d", "\u00e9", "\u03b1", "\u0436", "\u0451", "\u20ac", "\U0001f600"}
}

// great letters, for the small ones.
func great() []string {
	return []string{"A", "B", "C", "D", "\u00c9", "\u0391", "\u0416", "\u0401", "\u20ac", "\U0001f600"}
}

// word of so many letters.
func (d *draw) word(long int) string {
	var s strings.Builder
	for range long {
		s.WriteString(d.pick(small()...))
	}
	return s.String()
}

// grown writes letters of a text great, as chance has it.
func (d *draw) grown(s string) string {
	var grown strings.Builder
	for _, r := range s {
		if i := slices.Index(small(), string(r)); i >= 0 && d.n(2) == 0 {
			grown.WriteString(great()[i])
		} else {
			grown.WriteRune(r)
		}
	}
	return grown.String()
}

// sums is a grammar of the words 1, 2 and 3.
func sums() api.Grammar {
	return api.Grammar{Kinds: 1, Rules: []api.Rule{{Body: []int{0, -2, 0}}, {Body: []int{-1}}, {Body: []int{-3}}}}
}

// book of so many words, each two of which are so far apart at least.
func (d *draw) book(words, long, far int) api.Book {
	b := api.Book{Grammar: sums()}
	for tries := 0; len(b.Words) < words && tries < 2000; tries++ {
		word := d.word(1 + d.n(long))
		if !slices.ContainsFunc(b.Words, func(other string) bool { return slowFar(word, other) < far }) {
			b.Words = append(b.Words, word)
		}
	}
	return b
}

// slowUnits of a text, each as its bytes.
func slowUnits(s string) []string {
	var l []string
	for len(s) > 0 {
		_, n := utf8.DecodeRuneInString(s)
		l = append(l, s[:n])
		s = s[n:]
	}
	return l
}

// slowFar is how far two texts are apart, one unit after the other.
func slowFar(a, b string) int {
	from, to := slowUnits(a), slowUnits(b)
	known := map[[2]int]int{}
	var far func(i, j int) int
	far = func(i, j int) int {
		if i == len(from) || j == len(to) {
			return len(from) - i + len(to) - j
		}
		if n, there := known[[2]int{i, j}]; there {
			return n
		}
		n := 1 + min(far(i+1, j), far(i, j+1), far(i+1, j+1))
		if from[i] == to[j] {
			n = min(n, far(i+1, j+1))
		}
		known[[2]int{i, j}] = n
		return n
	}
	return far(0, 0)
}

// slowKind of a unit, of those that tests write: w a letter, n a number, x a stray; else what is passed over.
func slowKind(unit string) byte {
	r, n := utf8.DecodeRuneInString(unit)
	switch {
	case r == utf8.RuneError && n == 1:
		return 'x'
	case r >= '0' && r <= '9':
		return 'n'
	case r >= 'a' && r <= 'z' || r >= 'A' && r <= 'Z' || r >= 192 && r != 215 && r != 247:
		return 'w'
	}
	return ' '
}

func slowFold(s string) string {
	for i, letter := range great() {
		s = strings.ReplaceAll(s, letter, small()[i])
	}
	return s
}

// slowHear hears what is no error of the book's, and not too many bytes.
func slowHear(b api.Book, text string) ([]int, api.Errno) {
	var words []string // a word, or "" for what is wrong
	inWord := false
	for _, unit := range slowUnits(text) {
		kind := slowKind(unit)
		switch {
		case kind == 'w' && inWord:
			words[len(words)-1] += unit
		case kind == 'w':
			words = append(words, unit)
		case kind == 'n' || kind == 'x':
			words = append(words, "")
		}
		inWord = kind == 'w'
	}
	count := 0
	for _, word := range words {
		if word != "" {
			count++
		}
		if len(slowUnits(word)) > 21 || count > 16 {
			return nil, api.ErrLong
		}
	}
	var heard []int
	for _, word := range words {
		if word == "" {
			return nil, api.ErrForm
		}
		best := -1
		for i, other := range b.Words {
			if far := slowFar(slowFold(word), other); far <= 1 && (best < 0 || far < slowFar(slowFold(word), b.Words[best])) {
				best = i
			}
		}
		if best < 0 {
			return nil, api.ErrName
		}
		heard = append(heard, best+1)
	}
	return heard, api.OK
}

// edits of a word are all texts that come of one edit of it, with these letters, and have one letter at least.
func edits(word string, letters []string) []string {
	units := slowUnits(word)
	var all []string
	for i := range len(units) + 1 {
		for _, letter := range letters {
			all = append(all, strings.Join(slices.Insert(slices.Clone(units), i, letter), ""))
		}
		if i == len(units) {
			continue
		}
		for _, letter := range letters {
			all = append(all, strings.Join(slices.Replace(slices.Clone(units), i, i+1, letter), ""))
		}
		if len(units) > 1 {
			all = append(all, strings.Join(slices.Delete(slices.Clone(units), i, i+1), ""))
		}
	}
	return all
}

func isZero(t api.Tree) bool { return t.Rule == 0 && len(t.Kids) == 0 }
