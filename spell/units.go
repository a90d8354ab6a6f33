package spell

import (
	"unicode/utf8"

	"wordhoard/api"
	"wordhoard/letters"
)

// units of a text, each as its bytes, so that strays are told apart too;
// false: there are too many. What has more bytes than so many units can have
// is not gone through, however long it is.
func units(s string) ([]string, bool) {
	if len(s) > api.MaxUnits*utf8.UTFMax {
		return nil, false
	}
	all := letters.Units(s)
	if len(all) > api.MaxUnits {
		return nil, false
	}
	list := make([]string, len(all))
	for i, u := range all {
		list[i] = s[u.At : u.At+u.Len]
	}
	return list, true
}

// both are the units of two texts; false: one of them has too many.
func both(a, b string) (from, to []string, ok bool) {
	from, ok = units(a)
	if !ok {
		return nil, nil, false
	}
	to, ok = units(b)
	if !ok {
		return nil, nil, false
	}
	return from, to, true
}

func isUnit(s string) bool {
	return len(s) <= utf8.UTFMax && len(letters.Units(s)) == 1
}
