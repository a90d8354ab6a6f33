package sound

import (
	"slices"

	"wordhoard/api"
)

// place is where a change stands in a text that comes symbol by symbol. It
// knows no more than what the change still asks for, so that there are few.
type place struct {
	seen [maxLeft + 1]bool // seen[n]: what was written last matches the first n spots of Left
	held int               // so many symbols of From were read, and wait for what comes behind
}

func begin(c api.Change) place {
	p := place{seen: [maxLeft + 1]bool{true}}
	if len(c.Left) > 0 {
		p.seen[1] = c.Left[0].Edge
	}
	return p
}

// hear goes on by a symbol that is read, and tells what is written.
func (p place) hear(c api.Change, symbol int) (place, []int) {
	todo := append(slices.Clone(c.From[:p.held]), symbol)
	p.held = 0
	var written []int
	for len(todo) > 0 {
		same := min(len(todo), len(c.From))
		found := p.seen[len(c.Left)] && slices.Equal(todo[:same], c.From[:same])
		if found && len(todo) < len(c.From)+len(c.Right) {
			p.held = len(todo)
			break
		}
		p, todo, written = p.pass(c, found && matched(c, todo[same:]), todo, written)
	}
	return p, written
}

// end tells what is written when nothing more is to be read. What is held
// stands behind Left, but turns only if it is all of From.
func (p place) end(c api.Change) []int {
	if p.held == len(c.From) && matched(c, nil) {
		return c.To
	}
	return c.From[:p.held]
}

// matched tells whether Right is matched by all that stands behind From.
func matched(c api.Change, behind []int) bool {
	if len(c.Right) == 0 {
		return true
	}
	if len(behind) == 0 {
		return c.Right[0].Edge
	}
	return slices.Contains(c.Right[0].Any, behind[0])
}

// pass writes To for From, or the next symbol as it is; it answers the place
// behind that, what is still to be read, and all that was written.
func (p place) pass(c api.Change, turned bool, todo, written []int) (place, []int, []int) {
	read, write := 1, todo[:1]
	if turned {
		read, write = len(c.From), c.To
	}
	for _, symbol := range write {
		p = p.writing(c, symbol)
	}
	return p, todo[read:], append(written, write...)
}

// writing is the place behind a symbol that is written.
func (p place) writing(c api.Change, symbol int) place {
	next := place{seen: [maxLeft + 1]bool{true}}
	for i, s := range c.Left {
		next.seen[i+1] = p.seen[i] && slices.Contains(s.Any, symbol)
	}
	return next
}
