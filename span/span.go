// Package span: pieces of a text that are spanned by parts of a rule's body.
package span

// Ends tells where a part may end, the first and the last place, if it and so
// many parts behind it span a piece of a text: each has a word at least, and
// the last one ends with the piece.
func Ends(from, to, behind int) (int, int) {
	if behind == 0 {
		return max(from+1, to), to
	}
	return from + 1, to - behind
}

// IsWord tells whether a piece of a text is just the word that is that part.
func IsWord(text []int, part, from, to int) bool { return to == from+1 && text[from] == -part }
