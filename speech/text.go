package speech

import "wordhoard/api"

// text of a part in which nothing is wrong.
func text(p api.Part) string {
	switch p.Kind {
	case api.PartOver:
		return "(" + text(p.Kids[0]) + "/" + text(p.Kids[1]) + ")"
	case api.PartUnder:
		return "(" + text(p.Kids[0]) + "\\" + text(p.Kids[1]) + ")"
	}
	return string(rune('a' + p.N))
}

// written tells how many parts stand in a text of one; false: it is none. A
// text may have more brackets in one another than calls can stand in one
// another: so those that are open lie in a list.
func written(s string) (int, bool) {
	many := 0
	var open []bool // of each bracket: has its slash come?
	ended := false  // has a part just ended?
	for i := range len(s) {
		last := len(open) - 1
		switch c := s[i]; {
		case !ended && c == '(':
			many++
			open = append(open, false)
		case !ended && c >= 'a' && c < 'a'+letters:
			many++
			ended = true
		case ended && (c == '/' || c == '\\') && last >= 0 && !open[last]:
			open[last] = true
			ended = false
		case ended && c == ')' && last >= 0 && open[last]:
			open = open[:last]
		default:
			return 0, false
		}
	}
	return many, ended && len(open) == 0
}

// read the part at the beginning of a text, and tell what stands behind it.
func read(s string) (api.Part, string) {
	if s[0] != '(' {
		return api.Part{Kind: api.PartBase, N: int(s[0] - 'a')}, s[1:]
	}
	first, rest := read(s[1:])
	kind := api.PartOver
	if rest[0] == '\\' {
		kind = api.PartUnder
	}
	second, rest := read(rest[1:])
	return api.Part{Kind: kind, Kids: []api.Part{first, second}}, rest[1:]
}
