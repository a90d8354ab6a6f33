package sense

import (
	"slices"

	"wordhoard/api"
)

// nearest of each sort: the number of the last mention that is open.
type nearest [maxSort + 1]int

// refer tells of each mention whom it means. In its own sentence each one but
// an it is open to all behind it, so the last one of a sort is the nearest.
func refer(l [][]api.Mention) [][]int {
	var meant [][]int
	number := 0
	var lasting nearest
	for sort := range lasting {
		lasting[sort] = nobody
	}
	for _, sentence := range l {
		open := lasting
		var line []int
		for i, m := range sentence {
			if m.Kind != api.MentionIt {
				open[m.Sort] = number
			}
			if isLasting(m.Kind, sentence[:i]) {
				lasting[m.Sort] = number
			}
			line = append(line, open[m.Sort])
			number++
		}
		meant = append(meant, line)
	}
	return meant
}

// isLasting tells whether a mention is open in the sentences behind, too, by its kind and those ahead of it.
func isLasting(kind int, ahead []api.Mention) bool {
	isOver := func(m api.Mention) bool { return m.Kind == api.MentionEvery || m.Kind == api.MentionNo }
	return kind == api.MentionName || kind == api.MentionSome && !slices.ContainsFunc(ahead, isOver)
}
