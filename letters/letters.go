// Package letters: texts, unit by unit: see doc/01-letters.md.
package letters

import (
	"strings"
	"unicode/utf8"

	"wordhoard/api"
)

// stray stands where a unit has no letter.
const stray = -1

// Units of a text.
func Units(s string) []api.Unit {
	units := make([]api.Unit, 0, utf8.RuneCountInString(s))
	for at, r := range s {
		units = append(units, unitAt(s, at, r))
	}
	return units
}

// Encode is how a letter is written.
func Encode(letter int) (string, api.Errno) {
	if letter < 0 || letter > utf8.MaxRune || !utf8.ValidRune(rune(letter)) {
		return "", api.ErrRange
	}
	return string(rune(letter)), api.OK
}

// Fold writes great letters small.
func Fold(s string) string {
	var folded strings.Builder
	folded.Grow(len(s))
	for at, r := range s {
		if unitAt(s, at, r).Letter == stray {
			folded.WriteByte(s[at])
		} else {
			folded.WriteRune(small(r))
		}
	}
	return folded.String()
}

// Pieces of a text.
func Pieces(s string) []api.Piece {
	var pieces []api.Piece
	for at, r := range s {
		unit := unitAt(s, at, r)
		kind := kindOf(unit.Letter)
		last := len(pieces) - 1
		if last >= 0 && pieces[last].Kind == kind && grows(kind) {
			pieces[last].Len += unit.Len
		} else {
			pieces = append(pieces, api.Piece{Kind: kind, At: at, Len: unit.Len})
		}
	}
	return pieces
}

// unitAt is the unit that a range over s met at a place. The range tells a
// stray as the letter 65,533, which a text may also have in its own right.
func unitAt(s string, at int, r rune) api.Unit {
	if r == utf8.RuneError && !strings.HasPrefix(s[at:], "\ufffd") {
		return api.Unit{At: at, Len: 1, Letter: stray}
	}
	return api.Unit{At: at, Len: utf8.RuneLen(r), Letter: int(r)}
}

// small is the small letter of a great one, and any other letter itself.
func small(r rune) rune {
	switch {
	case r == 215 || r == 930:
		return r
	case r >= 65 && r <= 90, r >= 192 && r <= 222, r >= 913 && r <= 939, r >= 1040 && r <= 1071:
		return r + 32
	case r >= 1024 && r <= 1039:
		return r + 80
	}
	return r
}

// kindOf is the kind of the pieces in which a letter (or a stray) stands.
func kindOf(letter int) int {
	switch {
	case letter == stray:
		return api.PieceStray
	case letter == 215 || letter == 247:
		return api.PieceSign
	case letter >= 65 && letter <= 90, letter >= 97 && letter <= 122, letter >= 192:
		return api.PieceWord
	case letter >= 48 && letter <= 57:
		return api.PieceNumber
	case letter == 32 || letter == 9 || letter == 10:
		return api.PieceBlank
	}
	return api.PieceSign
}

// grows tells whether units of that kind that stand together are one piece.
func grows(kind int) bool {
	return kind != api.PieceSign && kind != api.PieceStray
}
