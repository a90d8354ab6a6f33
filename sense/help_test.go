package sense

import (
	"slices"
	"testing"

	"wordhoard/api"
)

// draw tells numbers that look like chance, the same each time.
type draw uint64

func (d *draw) n(n int) int {
	*d = *d*6364136223846793005 + 1442695040888963407
	return int(uint64(*d) >> 33 % uint64(n))
}

// both counts what was so, and what was not.
type both struct{ so, not int }

func (b *both) add(so bool) {
	if so {
		b.so++
	} else {
		b.not++
	}
}

// least of both that a test must have seen.
func (b *both) least(t *testing.T, n int) {
	t.Helper()
	if b.so < n || b.not < n {
		t.Errorf("only %d and %d", b.so, b.not)
	}
}

// scene in which nothing is wrong, of a few nouns, and a verb for each number of places.
func (d *draw) scene(size int) api.Scene {
	s := api.Scene{Size: d.n(size + 1)}
	for range 1 + d.n(4) {
		s.Nouns = append(s.Nouns, d.n(1<<s.Size))
	}
	full := 1 + d.n(4)
	for places := 1; places <= 3; places++ {
		v := api.Verb{Places: places}
		for _, list := range listsOf(s.Size, places) {
			if d.n(4) < full {
				v.Of = append(v.Of, list)
			}
		}
		s.Verbs = append(s.Verbs, v)
	}
	return s
}

// listsOf so many numbers below size, all of them.
func listsOf(size, long int) [][]int {
	all := [][]int{{}}
	for range long {
		var longer [][]int
		for _, list := range all {
			for who := range size {
				longer = append(longer, append(slices.Clone(list), who))
			}
		}
		all = longer
	}
	return all
}

func (d *draw) saying(s api.Scene) api.Saying {
	t := api.Saying{Verb: d.n(len(s.Verbs))}
	for range s.Verbs[t.Verb].Places {
		t.Phrases = append(t.Phrases, api.Phrase{Quant: 1 + d.n(3), Noun: d.n(len(s.Nouns))})
	}
	return t
}

// slowOrders of so many places, as lists are compared.
func slowOrders(places int) [][]int {
	return [][][]int{
		1: {{0}},
		2: {{0, 1}, {1, 0}},
		3: {{0, 1, 2}, {0, 2, 1}, {1, 0, 2}, {1, 2, 0}, {2, 0, 1}, {2, 1, 0}},
	}[places]
}

// anybody stands in a place that has been said already.
const anybody = -9

// slowHolds goes from the inside out: of each list of the places that are left
// it knows whether the saying holds, and one place after the other is left out.
func slowHolds(s api.Scene, t api.Saying, order []int) bool {
	var left [3]int
	holds := map[[3]int]bool{}
	for _, list := range s.Verbs[t.Verb].Of {
		var who [3]int
		copy(who[:], list)
		holds[who] = true
	}
	for i := len(order) - 1; i >= 0; i-- {
		place := order[i]
		left[place] = anybody
		next := map[[3]int]bool{}
		for _, list := range listsOf(s.Size, len(order)) {
			var who [3]int
			copy(who[:], list)
			for p := range who {
				if left[p] == anybody && p != place {
					who[p] = anybody
				}
			}
			are, do := 0, 0
			for x := range s.Size {
				if s.Nouns[t.Phrases[place].Noun]/(1<<x)%2 == 1 {
					who[place] = x
					are++
					if holds[who] {
						do++
					}
				}
			}
			who[place] = anybody
			next[who] = [4]bool{api.QuantEvery: do == are, api.QuantSome: do > 0, api.QuantNo: do == 0}[t.Phrases[place].Quant]
		}
		holds = next
	}
	who := [3]int{}
	for p := range order {
		who[p] = anybody
	}
	if s.Size == 0 { // then there are no lists to go by
		return t.Phrases[order[0]].Quant != api.QuantSome
	}
	return holds[who]
}

// shown is a line of the document's table: all Kids or one, and whether each is that it holds.
type shown struct{ all, holds bool }

// table of what is to be shown: a quantifier, and whether it is so.
func table() map[api.Phrase]shown {
	const not, so = 0, 1
	return map[api.Phrase]shown{
		{Quant: api.QuantEvery, Noun: so}:  {all: true, holds: true},
		{Quant: api.QuantEvery, Noun: not}: {all: false, holds: false},
		{Quant: api.QuantSome, Noun: so}:   {all: false, holds: true},
		{Quant: api.QuantSome, Noun: not}:  {all: true, holds: false},
		{Quant: api.QuantNo, Noun: so}:     {all: true, holds: false},
		{Quant: api.QuantNo, Noun: not}:    {all: false, holds: true},
	}
}

func lineOf(quant int, so bool) shown {
	if so {
		return table()[api.Phrase{Quant: quant, Noun: 1}]
	}
	return table()[api.Phrase{Quant: quant, Noun: 0}]
}

// isSaid of the individuals, place by place.
func isSaid(v api.Verb, who map[int]int) bool {
	for _, list := range v.Of {
		same := 0
		for place, x := range list {
			if who[place] == x {
				same++
			}
		}
		if same == v.Places {
			return true
		}
	}
	return false
}

// slowReasons are all lists of Kids by which it is shown that what is left of an order holds, or does not.
func slowReasons(s api.Scene, t api.Saying, order []int, who map[int]int, so bool) [][]api.Reason {
	if len(order) == 0 {
		if isSaid(s.Verbs[t.Verb], who) == so {
			return [][]api.Reason{nil}
		}
		return nil
	}
	place := order[0]
	line := lineOf(t.Phrases[place].Quant, so)
	all := [][]api.Reason{nil}
	var ones [][]api.Reason
	for x := range s.Size {
		if s.Nouns[t.Phrases[place].Noun]/(1<<x)%2 == 0 {
			continue
		}
		who[place] = x
		rests := slowReasons(s, t, order[1:], who, line.holds)
		var longer [][]api.Reason
		for _, kids := range rests {
			kid := api.Reason{Who: x, Kids: kids}
			ones = append(ones, []api.Reason{kid})
			for _, ahead := range all {
				longer = append(longer, append(slices.Clone(ahead), kid))
			}
		}
		all = longer
	}
	if line.all {
		return all
	}
	return ones
}

// slowGood asks of a reason, place by place.
func slowGood(s api.Scene, t api.Saying, order []int, so bool, why api.Reason) bool {
	return why.Who == -1 && slowKids(s, t, order, map[int]int{}, so, why.Kids)
}

func slowKids(s api.Scene, t api.Saying, order []int, who map[int]int, so bool, kids []api.Reason) bool {
	if len(order) == 0 {
		return len(kids) == 0 && isSaid(s.Verbs[t.Verb], who) == so
	}
	place := order[0]
	line := lineOf(t.Phrases[place].Quant, so)
	noun := s.Nouns[t.Phrases[place].Noun]
	if !line.all && len(kids) != 1 {
		return false
	}
	met, last := 0, -1
	for _, kid := range kids {
		if kid.Who <= last || kid.Who >= s.Size || noun/(1<<kid.Who)%2 == 0 {
			return false
		}
		last = kid.Who
		met += 1 << kid.Who
		who[place] = kid.Who
		if !slowKids(s, t, order[1:], who, line.holds, kid.Kids) {
			return false
		}
	}
	return !line.all || met == noun
}

// reasonsIn counts a reason and all in it.
func reasonsIn(r api.Reason) int {
	n := 1
	for _, kid := range r.Kids {
		n += reasonsIn(kid)
	}
	return n
}

func copyOf(r api.Reason) api.Reason {
	var kids []api.Reason
	for _, kid := range r.Kids {
		kids = append(kids, copyOf(kid))
	}
	return api.Reason{Who: r.Who, Kids: kids}
}

// spoilt is a reason with a change somewhere in it.
func (d *draw) spoilt(r api.Reason) api.Reason {
	r = copyOf(r)
	at := &r
	for len(at.Kids) > 0 && d.n(4) > 0 {
		at = &at.Kids[d.n(len(at.Kids))]
	}
	switch n := len(at.Kids); d.n(6) {
	case 0:
		at.Who = d.n(8) - 2
	case 1:
		at.Kids = append(at.Kids, api.Reason{Who: d.n(5)})
	case 2:
		at.Kids = at.Kids[:n/2]
	case 3:
		slices.Reverse(at.Kids)
	case 4:
		if n > 0 {
			at.Kids = append(at.Kids, at.Kids[n-1])
		}
	case 5:
		if n > 0 {
			at.Kids = at.Kids[1:]
		}
	}
	return r
}

// mentions of so many sentences at most.
func (d *draw) mentions(sentences, long, sorts int) [][]api.Mention {
	var l [][]api.Mention
	for range d.n(sentences + 1) {
		var sentence []api.Mention
		for range d.n(long + 1) {
			sentence = append(sentence, api.Mention{Kind: 1 + d.n(5), Sort: 1 + d.n(sorts)})
		}
		l = append(l, sentence)
	}
	return l
}

// slowRefer asks of each mention ahead, from the nearest on, whether it is open.
func slowRefer(l [][]api.Mention) [][]int {
	type place struct{ sentence, at int }
	var places []place
	var meant [][]int
	for i, sentence := range l {
		line := []int{}
		for j, m := range sentence {
			who := len(places)
			if m.Kind == api.MentionIt {
				who = -1
				for n := len(places) - 1; n >= 0 && who < 0; n-- {
					p := places[n]
					other := l[p.sentence][p.at]
					if other.Kind != api.MentionIt && other.Sort == m.Sort && slowOpen(l[p.sentence], p.at, p.sentence == i) {
						who = n
					}
				}
			}
			line = append(line, who)
			places = append(places, place{i, j})
		}
		meant = append(meant, line)
	}
	return meant
}

// slowOpen tells whether a mention is open behind it, in its sentence or in those behind.
func slowOpen(sentence []api.Mention, at int, same bool) bool {
	switch sentence[at].Kind {
	case api.MentionName:
		return true
	case api.MentionEvery, api.MentionNo:
		return same
	}
	under := false
	for _, m := range sentence[:at] {
		under = under || m.Kind == api.MentionEvery || m.Kind == api.MentionNo
	}
	return same || !under
}

// roomy has the same elements, and room behind them with what nobody may change.
func roomy[T any](l []T, behind T) []T {
	all := append(slices.Clone(l), behind, behind, behind)
	return all[:len(l)]
}

// mirror is a scene of two who each see themselves.
func mirror() api.Scene {
	return api.Scene{Size: 2, Nouns: []int{3}, Verbs: []api.Verb{{Places: 2, Of: [][]int{{0, 0}, {1, 1}}}}}
}

// crowd is the greatest scene there may be.
func crowd() api.Scene {
	s := api.Scene{Size: api.MaxScene, Nouns: slices.Repeat([]int{1<<api.MaxScene - 1}, 10)}
	all := listsOf(api.MaxScene, 3)
	for i := range 10 {
		s.Verbs = append(s.Verbs, api.Verb{Places: 3, Of: append(all[i:len(all):len(all)], all[:75]...)})
	}
	return s
}
