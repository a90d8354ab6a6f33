package prove

import (
	"slices"
	"strings"
	"testing"

	"wordhoard/api"
)

// draw tells numbers that look like chance, the same each time.
type draw uint64

func (d *draw) n(n int) int {
	*d = *d*6364136223846793005 + 1442695040888963407
	return int(uint64(*d) >> 33 % uint64(n))
}

// both counts what was so, and what was not.
type both struct{ so, not int }

func (b *both) add(so bool) {
	if so {
		b.so++
	} else {
		b.not++
	}
}

// least of both that a test must have seen.
func (b *both) least(t *testing.T, n int) {
	t.Helper()
	if b.so < n || b.not < n {
		t.Errorf("only %d and %d", b.so, b.not)
	}
}

// literal of the first nouns.
func (d *draw) literal(nouns int) int { return (1 + d.n(nouns)) * (1 - 2*d.n(2)) }

func (d *draw) claim(nouns int) api.Claim {
	return api.Claim{Some: d.n(3) == 0, A: d.literal(nouns), B: d.literal(nouns)}
}

func (d *draw) claims(many, nouns int) []api.Claim {
	var l []api.Claim
	for range many {
		l = append(l, d.claim(nouns))
	}
	return l
}

// allClaims about the first nouns.
func allClaims(nouns int) []api.Claim {
	var l []api.Claim
	for a := -nouns; a <= nouns; a++ {
		for b := -nouns; b <= nouns; b++ {
			if a != 0 && b != 0 {
				l = append(l, api.Claim{A: a, B: b}, api.Claim{Some: true, A: a, B: b})
			}
		}
	}
	return l
}

// nounsOf an individual, each of which it is (1) or is not (-1).
func nounsOf(who int) map[int]int {
	m := map[int]int{}
	for n := 1; n <= api.MaxNouns; n++ {
		m[n], m[-n] = -1, 1
		if who%2 == 1 {
			m[n], m[-n] = 1, -1
		}
		who /= 2
	}
	return m
}

// slowHolds asks one individual after the other.
func slowHolds(world []int, c api.Claim) bool {
	both, onlyA := 0, 0
	for _, who := range world {
		m := nounsOf(who)
		switch {
		case m[c.A] == 1 && m[c.B] == 1:
			both++
		case m[c.A] == 1:
			onlyA++
		}
	}
	if c.Some {
		return both > 0
	}
	return onlyA == 0
}

func slowHold(world []int, premises []api.Claim) bool {
	for _, p := range premises {
		if !slowHolds(world, p) {
			return false
		}
	}
	return true
}

// allWorlds of individuals that are of the first nouns at most.
func allWorlds(nouns int) [][]int {
	many := 1 << nouns
	var all [][]int
	for set := range 1 << many {
		var world []int
		for who := range many {
			if set>>who&1 == 1 {
				world = append(world, who)
			}
		}
		all = append(all, world)
	}
	return all
}

// slowTable tells of each claim in which of some worlds it holds.
type slowTable map[api.Claim][]bool

func newTable(worlds [][]int, claims []api.Claim) slowTable {
	table := slowTable{}
	for _, c := range claims {
		for _, world := range worlds {
			table[c] = append(table[c], slowHolds(world, c))
		}
	}
	return table
}

// follows tells whether a claim holds in each of the worlds in which premises do.
func (s slowTable) follows(premises []api.Claim, c api.Claim) bool {
	for i, holds := range s[c] {
		fails := func(p api.Claim) bool { return !s[p][i] }
		if !holds && !slices.ContainsFunc(premises, fails) {
			return false
		}
	}
	return true
}

// pattern of a rule: how a claim is written, with letters for any literals.
type pattern struct {
	rule  int
	of    []string
	comes string
}

// patterns are the document's table; * is any claim.
func patterns() []pattern {
	return []pattern{
		{api.LineSelf, nil, "all A are A"},
		{api.LineChain, []string{"all A are B", "all B are C"}, "all A are C"},
		{api.LineTurn, []string{"all A are B"}, "all -B are -A"},
		{api.LineVoid, []string{"all A are -A"}, "all A are B"},
		{api.LineFull, []string{"all -A are A"}, "all B are A"},
		{api.LineSwap, []string{"some A is B"}, "some B is A"},
		{api.LineThere, []string{"some A is B"}, "some A is A"},
		{api.LineLead, []string{"some A is B", "all B are C"}, "some A is C"},
		{api.LineClash, []string{"all A are B", "some A is -B"}, "*"},
	}
}

// meant takes a written claim, with literals for its letters.
func meant(s string, letters [3]int) api.Claim {
	words := strings.Fields(s)
	literal := func(w string) int {
		n := letters[strings.Index("ABC", w[len(w)-1:])]
		if len(w) == 2 {
			return -n
		}
		return n
	}
	return api.Claim{Some: words[0] == "some", A: literal(words[1]), B: literal(words[3])}
}

// instance of a rule; that of any claim has none of its own.
type instance struct {
	rule  int
	many  int
	of    [2]api.Claim
	comes api.Claim
}

// instances of the rules, with all literals for their letters.
type instances map[instance]int

func newInstances(nouns int) instances {
	m := instances{}
	for i := range (2*nouns + 1) * (2*nouns + 1) * (2*nouns + 1) {
		letters := [3]int{i%(2*nouns+1) - nouns, i/(2*nouns+1)%(2*nouns+1) - nouns, i/(2*nouns+1)/(2*nouns+1) - nouns}
		if slices.Contains(letters[:], 0) {
			continue
		}
		for _, p := range patterns() {
			x := instance{rule: p.rule, many: len(p.of)}
			for j, s := range p.of {
				x.of[j] = meant(s, letters)
			}
			if p.comes != "*" {
				x.comes = meant(p.comes, letters)
			}
			m[x]++
		}
	}
	return m
}

func (m instances) has(rule int, c api.Claim, of []api.Claim) bool {
	if len(of) > 2 {
		return false
	}
	x := instance{rule: rule, many: len(of)}
	copy(x.of[:], of)
	free := m[x]
	x.comes = c
	return free > 0 || m[x] > 0
}

// right tells whether each line is right.
func (m instances) right(premises []api.Claim, lines []api.Line) bool {
	for i, l := range lines {
		if !m.rightLine(premises, lines[:i], l) {
			return false
		}
	}
	return true
}

func (m instances) rightLine(premises []api.Claim, ahead []api.Line, l api.Line) bool {
	if l.Rule == api.LineGiven {
		return len(l.From) == 1 && l.From[0] >= 0 && l.From[0] < len(premises) && premises[l.From[0]] == l.Claim
	}
	var of []api.Claim
	for _, n := range l.From {
		if n < 0 || n >= len(ahead) {
			return false
		}
		of = append(of, ahead[n].Claim)
	}
	return m.has(l.Rule, l.Claim, of)
}

// roomy has the same elements, and room behind them with what nobody may change.
func roomy[T any](l []T, behind T) []T {
	all := append(slices.Clone(l), behind, behind, behind)
	return all[:len(l)]
}
