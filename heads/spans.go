package heads

// span of a word: from where to where it and those that hang on it stand, and how many these are.
type span struct{ low, high, many int }

// areSpans tells of a tree whether each word and those that hang on it, going
// up, stand side by side. That is just when all words between a word and that
// on which it hangs hang on that, too; so no two words are asked of each other.
func areSpans(up []int) bool {
	spans := make([]span, len(up)+1)
	waits := make([]int, len(up)+1) // for how many that hang on it
	for w := range spans {
		spans[w] = span{low: w, high: w, many: 1}
	}
	for _, h := range up {
		waits[h]++
	}
	for i := range up {
		for at := i + 1; at != 0 && waits[at] == 0; at = up[at-1] {
			s, h := spans[at], up[at-1]
			if s.high-s.low+1 != s.many {
				return false
			}
			spans[h] = spans[h].with(s)
			waits[h]--
			waits[at] = -1 // it has been told
		}
	}
	return true
}

// with is both together.
func (s span) with(t span) span {
	return span{low: min(s.low, t.low), high: max(s.high, t.high), many: s.many + t.many}
}
