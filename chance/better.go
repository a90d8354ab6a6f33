package chance

import (
	"wordhoard/api"
	"wordhoard/numbers"
)

// Better probabilities, by texts.
func Better(c api.Chances, texts [][]int) ([]string, api.Errno) {
	if e := Check(c); e != api.OK {
		return nil, e
	}
	if len(texts) < 1 || len(texts) > api.MaxCorpus {
		return nil, api.ErrMany
	}
	old := given(c)
	o := oddsOf(c.Grammar, old)
	sum := uses{times: make([]numbers.Whole, len(o.rules)), over: numbers.Of(1)}
	for _, text := range texts {
		if e := checkText(text); e != api.OK {
			return nil, e
		}
		u := usesOf(o, text)
		if u.over.IsZero() {
			return nil, api.ErrNone
		}
		sum = sum.plus(u)
	}
	told := make([]string, len(old))
	for i, f := range sum.shared(o.rules, old) {
		told[i] = f.Text()
	}
	return told, api.OK
}

// uses tell of each rule how often it is used: times, over the same for all.
type uses struct {
	times []numbers.Whole
	over  numbers.Whole
}

// usesOf the rules in the trees of a text; over nought, if it has none.
func usesOf(o odds, text []int) uses {
	t := treesOf(o, text)
	all := t.ofKind(t.whole())
	u := uses{times: make([]numbers.Whole, len(o.rules)), over: all.n}
	for i := range o.rules {
		u.times[i] = o.raised(t.useOf(i), all.over)
	}
	return u
}

// useOf a rule: what the trees with it are worth, each as often as it stands in them.
func (t *trees) useOf(rule int) worth {
	var sum worth
	for from := range t.text {
		for to := from + 1; to <= len(t.text); to++ {
			below := t.ofRest(some{rule: rule, dot: 0, from: from, to: to})
			if !below.isNone() {
				above := t.around(piece{kind: t.odds.rules[rule].Head, from: from, to: to})
				sum = t.odds.plus(sum, above.times(t.odds.ofRule(rule)).times(below))
			}
		}
	}
	return sum
}

// plus is both together, over the least that both go into.
func (u uses) plus(v uses) uses {
	common := numbers.Common(u.over, v.over)
	forU, _ := v.over.Over(common)
	forV, _ := u.over.Over(common)
	sum := uses{times: make([]numbers.Whole, len(u.times)), over: u.over.Times(forU)}
	for i := range sum.times {
		sum.times[i] = u.times[i].Times(forU).Plus(v.times[i].Times(forV))
	}
	return sum
}

// shared tells of each rule its share of what the rules of its head have; the old one, if they have nothing.
func (u uses) shared(rules []api.Rule, old []numbers.Fraction) []numbers.Fraction {
	var all [api.MaxKinds]numbers.Whole
	for i, r := range rules {
		all[r.Head] = all[r.Head].Plus(u.times[i])
	}
	shares := make([]numbers.Fraction, len(rules))
	for i, r := range rules {
		shares[i] = old[i]
		if !all[r.Head].IsZero() {
			shares[i] = numbers.Part(u.times[i], all[r.Head])
		}
	}
	return shares
}
