package speech

import (
	"slices"
	"strings"

	"wordhoard/api"
)

// draw tells numbers that look like chance, the same each time.
type draw uint64

func (d *draw) n(n int) int {
	*d = *d*6364136223846793005 + 1442695040888963407
	return int(uint64(*d) >> 33 % uint64(n))
}

func base(n int) api.Part { return api.Part{Kind: api.PartBase, N: n} }

func over(x, y api.Part) api.Part { return api.Part{Kind: api.PartOver, Kids: []api.Part{x, y}} }

func under(y, x api.Part) api.Part { return api.Part{Kind: api.PartUnder, Kids: []api.Part{y, x}} }

// part of so many slashes, and of the first letters.
func (d *draw) part(slashes, letters int) api.Part {
	if slashes == 0 {
		return base(d.n(letters))
	}
	first := d.n(slashes)
	x, y := d.part(first, letters), d.part(slashes-1-first, letters)
	if d.n(2) == 0 {
		return over(x, y)
	}
	return under(x, y)
}

// sequent of so many parts and slashes, of which no part has too many.
func (d *draw) sequent(parts, slashes, letters int) ([]api.Part, api.Part) {
	shares := make([]int, parts+1)
	for range slashes {
		shares[d.n(len(shares))]++
	}
	if slices.Max(shares) > api.MaxPart/2 {
		return d.sequent(parts, slashes, letters)
	}
	var left []api.Part
	for _, n := range shares[1:] {
		left = append(left, d.part(n, letters))
	}
	return left, d.part(shares[0], letters)
}

// allParts with just so many slashes, of the first letters.
func allParts(slashes, letters int) []api.Part {
	var all []api.Part
	if slashes == 0 {
		for n := range letters {
			all = append(all, base(n))
		}
	}
	for first := range slashes {
		for _, x := range allParts(first, letters) {
			for _, y := range allParts(slashes-1-first, letters) {
				all = append(all, over(x, y), under(x, y))
			}
		}
	}
	return all
}

// part that is written so; a number of them.
func part(s string) api.Part {
	p, e := Read(s)
	if e != api.OK {
		panic(s)
	}
	return p
}

func parts(l ...string) []api.Part {
	var all []api.Part
	for _, s := range l {
		all = append(all, part(s))
	}
	return all
}

// deep part of so many slashes.
func deep(slashes int) api.Part {
	p := base(0)
	for range slashes {
		p = over(p, base(1))
	}
	return p
}

// endless part, which stands in itself.
func endless() api.Part {
	p := over(base(0), base(1))
	p.Kids[0] = p
	return p
}

// slow tells the text of a part, whatever it is.
func slow(p api.Part) string {
	var kids []string
	for _, kid := range p.Kids {
		kids = append(kids, slow(kid))
	}
	switch {
	case p.Kind == api.PartBase:
		return string("abcdefghij"[p.N])
	case p.Kind == api.PartOver:
		return "(" + strings.Join(kids, "/") + ")"
	}
	return "(" + strings.Join(kids, "\\") + ")"
}

func slowRow(left []api.Part, goal api.Part) string {
	s := ""
	for _, p := range left {
		s += slow(p) + " "
	}
	return s + "is " + slow(goal)
}

func slashes(p api.Part) int {
	n := 0
	if p.Kind != api.PartBase {
		n = 1
	}
	for _, kid := range p.Kids {
		n += slashes(kid)
	}
	return n
}

func slashesOf(left []api.Part, goal api.Part) int {
	n := slashes(goal)
	for _, p := range left {
		n += slashes(p)
	}
	return n
}

// gives tells what a part gives of a letter, less what it wants.
func gives(p api.Part, letter int) int {
	switch {
	case p.Kind == api.PartOver:
		return gives(p.Kids[0], letter) - gives(p.Kids[1], letter)
	case p.Kind == api.PartUnder:
		return gives(p.Kids[1], letter) - gives(p.Kids[0], letter)
	case p.N == letter:
		return 1
	}
	return 0
}

// known tells of sequents whether they have proofs, by all steps but cuts.
type known map[string]bool

func (k known) proves(left []api.Part, goal api.Part) bool {
	if len(left) == 0 {
		return false
	}
	s := slowRow(left, goal)
	ok, there := k[s]
	if !there {
		ok = k.looks(left, goal)
		k[s] = ok
	}
	return ok
}

func (k known) looks(left []api.Part, goal api.Part) bool {
	switch {
	case len(left) == 1 && slow(left[0]) == slow(goal):
		return true
	case goal.Kind == api.PartOver && k.proves(slices.Concat(left, goal.Kids[1:]), goal.Kids[0]):
		return true
	case goal.Kind == api.PartUnder && k.proves(slices.Concat(goal.Kids[:1], left), goal.Kids[1]):
		return true
	}
	for i, p := range left {
		for from := 0; from <= len(left); from++ {
			for to := from + 1; to <= len(left); to++ {
				if p.Kind == api.PartOver && from == i+1 && k.proves(left[from:to], p.Kids[1]) && k.proves(slices.Concat(left[:i], p.Kids[:1], left[to:]), goal) {
					return true
				}
				if p.Kind == api.PartUnder && to == i && k.proves(left[from:to], p.Kids[0]) && k.proves(slices.Concat(left[:from], p.Kids[1:], left[i+1:]), goal) {
					return true
				}
			}
		}
	}
	return false
}

// comes tells all that comes of proofs by a step.
func comes(step int, kids ...api.Proof) []api.Proof {
	var all []api.Proof
	switch {
	case (step == api.StepOver || step == api.StepUnder) && len(kids) == 1:
		left, n := kids[0].Left, len(kids[0].Left)
		p := api.Proof{Step: step, Kids: kids}
		if n < 2 {
			break
		}
		if p.Left, p.Goal = left[:n-1], over(kids[0].Goal, left[n-1]); step == api.StepUnder {
			p.Left, p.Goal = left[1:], under(left[0], kids[0].Goal)
		}
		all = append(all, p)
	case step >= api.StepOverLeft && step <= api.StepCut && len(kids) == 2:
		for i, x := range kids[1].Left {
			p := api.Proof{Step: step, Goal: kids[1].Goal, At: i, N: len(kids[0].Left), Kids: kids}
			middle := kids[0].Left
			switch {
			case step == api.StepOverLeft:
				p.At++
				middle = slices.Concat([]api.Part{over(x, kids[0].Goal)}, middle)
			case step == api.StepUnderLeft:
				middle = slices.Concat(middle, []api.Part{under(kids[0].Goal, x)})
			case slow(x) != slow(kids[0].Goal):
				continue
			}
			p.Left = slices.Concat(kids[1].Left[:i], middle, kids[1].Left[i+1:])
			all = append(all, p)
		}
	}
	return all
}

// slowRight tells whether a step is one of those that come of its proofs, and these are right.
func slowRight(p api.Proof) bool {
	for _, kid := range p.Kids {
		if !slowRight(kid) {
			return false
		}
	}
	if p.Step == api.StepSame {
		return len(p.Left) == 1 && slow(p.Left[0]) == slow(p.Goal) && p.At == 0 && p.N == 0 && len(p.Kids) == 0
	}
	return slices.ContainsFunc(comes(p.Step, p.Kids...), func(q api.Proof) bool {
		return slowRow(p.Left, p.Goal) == slowRow(q.Left, q.Goal) && p.At == q.At && p.N == q.N
	})
}

func same(x api.Part) api.Proof {
	return api.Proof{Step: api.StepSame, Left: []api.Part{x}, Goal: x}
}

// proofs that are right, so many, made out of one another.
func (d *draw) proofs(many int) []api.Proof {
	var all []api.Proof
	for range 6 {
		all = append(all, same(d.part(d.n(3), 2)))
	}
	for len(all) < many {
		step := api.StepOver + d.n(5)
		kids := []api.Proof{all[d.n(len(all))]}
		if step >= api.StepOverLeft {
			kids = append(kids, all[d.n(len(all))])
		}
		if more := comes(step, kids...); len(more) > 0 {
			if p := more[d.n(len(more))]; fits(p) {
				all = append(all, p)
			}
		}
	}
	return all
}

// fits tells whether nothing is too great in a proof whose kids are not.
func fits(p api.Proof) bool {
	great := func(p api.Part) bool { return slashes(p) > api.MaxPart/2 }
	return steps(p) <= 60 && len(p.Left) <= 9 && !great(p.Goal) && !slices.ContainsFunc(p.Left, great)
}

func steps(p api.Proof) int {
	n := 1
	for _, kid := range p.Kids {
		n += steps(kid)
	}
	return n
}

// cuts: how many does a proof have?
func cuts(p api.Proof) int {
	n := 0
	if p.Step == api.StepCut {
		n = 1
	}
	for _, kid := range p.Kids {
		n += cuts(kid)
	}
	return n
}

// isNothing tells whether a proof is the zero value.
func isNothing(p api.Proof) bool {
	return p.Step == 0 && len(p.Left) == 0 && isNoPart(p.Goal) && p.At == 0 && p.N == 0 && len(p.Kids) == 0
}

func isNoPart(p api.Part) bool { return p.Kind == 0 && p.N == 0 && len(p.Kids) == 0 }

// roomy has the same elements, and room behind them with what nobody may change.
func roomy[T any](l []T, behind T) []T {
	all := append(slices.Clone(l), behind, behind, behind)
	return all[:len(l)]
}
