package chance

import (
	"wordhoard/api"
	"wordhoard/numbers"
)

// odds of rules: a rule's probability is its share over what is whole for its head.
type odds struct {
	rules  []api.Rule
	shares []numbers.Whole
	wholes [api.MaxKinds]numbers.Whole
}

// given are the probabilities that weights give.
func given(c api.Chances) []numbers.Fraction {
	var all [api.MaxKinds]int
	for i, r := range c.Grammar.Rules {
		all[r.Head] += c.Weights[i]
	}
	p := make([]numbers.Fraction, len(c.Weights))
	for i, r := range c.Grammar.Rules {
		p[i] = numbers.Part(numbers.Of(c.Weights[i]), numbers.Of(all[r.Head]))
	}
	return p
}

// oddsOf probabilities: those of one head are brought to the same below.
func oddsOf(g api.Grammar, p []numbers.Fraction) odds {
	o := odds{rules: g.Rules, shares: make([]numbers.Whole, len(p))}
	for kind := range o.wholes {
		o.wholes[kind] = numbers.Of(1)
	}
	for i, r := range o.rules {
		o.wholes[r.Head] = numbers.Least(o.wholes[r.Head], p[i].Bottom)
	}
	for i, r := range o.rules {
		times, _ := o.wholes[r.Head].Over(p[i].Bottom)
		o.shares[i] = p[i].Top.Times(times)
	}
	return o
}

// areWhole tells whether the rules of each head are 1 together.
func (o odds) areWhole() bool {
	var sums [api.MaxKinds]numbers.Whole
	for i, r := range o.rules {
		sums[r.Head] = sums[r.Head].Plus(o.shares[i])
	}
	for _, r := range o.rules {
		if sums[r.Head].Against(o.wholes[r.Head]) != 0 {
			return false
		}
	}
	return true
}

// worth is a probability: n over what is whole for each head, that so often.
// So nothing has to be shortened on the way, which would take longest.
type worth struct {
	n    numbers.Whole
	over [api.MaxKinds]int
}

// certainIf is 1, or nought.
func certainIf(holds bool) worth {
	if holds {
		return worth{n: numbers.Of(1)}
	}
	return worth{}
}

func (a worth) isNone() bool { return a.n.IsZero() }

// ofRule is a rule's probability.
func (o odds) ofRule(i int) worth {
	w := worth{n: o.shares[i]}
	w.over[o.rules[i].Head] = 1
	return w
}

func (a worth) times(b worth) worth {
	if a.isNone() || b.isNone() {
		return worth{}
	}
	product := worth{n: a.n.Times(b.n)}
	for kind := range product.over {
		product.over[kind] = a.over[kind] + b.over[kind]
	}
	return product
}

// plus is the sum.
func (o odds) plus(a, b worth) worth {
	switch {
	case a.isNone():
		return b
	case b.isNone():
		return a
	}
	x, y, over := o.level(a, b)
	return worth{n: x.Plus(y), over: over}
}

// isAbove tells whether a is worth more than b.
func (o odds) isAbove(a, b worth) bool {
	x, y, _ := o.level(a, b)
	return x.Against(y) > 0
}

// level brings two over the same.
func (o odds) level(a, b worth) (numbers.Whole, numbers.Whole, [api.MaxKinds]int) {
	over := a.over
	for kind, n := range b.over {
		over[kind] = max(over[kind], n)
	}
	return o.raised(a, over), o.raised(b, over), over
}

// raised is what stands above if that often the wholes stand below, which is as often as now at least.
func (o odds) raised(a worth, over [api.MaxKinds]int) numbers.Whole {
	more := numbers.Of(1)
	for kind, often := range over {
		for range often - a.over[kind] {
			more = more.Times(o.wholes[kind])
		}
	}
	return a.n.Times(more)
}

// fraction is a worth without a common factor. What is below is shortened whole
// by whole, which are much smaller than all of it.
func (o odds) fraction(a worth) numbers.Fraction {
	f := numbers.Fraction{Top: a.n, Bottom: numbers.Of(1)}
	if a.isNone() {
		return f
	}
	for kind, often := range a.over {
		for range often {
			short := numbers.Part(f.Top, o.wholes[kind])
			f.Top, f.Bottom = short.Top, f.Bottom.Times(short.Bottom)
		}
	}
	return f
}
