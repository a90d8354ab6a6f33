package reader

import (
	"unicode/utf8"

	"wordhoard/api"
	"wordhoard/letters"
)

// piece of a text, folded.
type piece struct {
	kind int
	text string
}

// piecesOf a text. A fold has the same pieces as the text, unit by unit.
func piecesOf(text string) []piece {
	folded := letters.Fold(text)
	var all []piece
	for _, p := range letters.Pieces(folded) {
		all = append(all, piece{kind: p.Kind, text: folded[p.At : p.At+p.Len]})
	}
	return all
}

// tooLong tells whether there are more words than are heard, or one has more
// units than any that would be near a word of a book.
func tooLong(pieces []piece) bool {
	words := 0
	for _, p := range pieces {
		if p.kind != api.PieceWord {
			continue
		}
		words++
		if words > api.MaxText || !hasUpTo(p.text, api.MaxLetters+maxFar) {
			return true
		}
	}
	return false
}

// hasUpTo tells whether a text has at most so many units. What has more bytes
// than so many units can have is not gone through, however long it is.
func hasUpTo(text string, most int) bool {
	return len(text) <= most*utf8.UTFMax && len(letters.Units(text)) <= most
}

// isWord tells whether a text may be a word of a book.
func isWord(text string) bool {
	pieces := letters.Pieces(text)
	return len(pieces) == 1 && pieces[0].Kind == api.PieceWord && letters.Fold(text) == text
}
