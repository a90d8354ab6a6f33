package pair

import (
	"slices"

	"wordhoard/api"
	"wordhoard/numbers"
)

// odds of words: what a table has for a word of From and one of To is a top
// over what is whole, which is the same for all of them.
type odds struct {
	tops  [][]numbers.Whole
	whole numbers.Whole
}

// read duos and a table, and tell what is wrong with them.
func read(l []api.Duo, table [][]string) (odds, api.Errno) {
	isAny := func(is func(text []int) bool) bool {
		return slices.ContainsFunc(l, func(d api.Duo) bool { return is(d.From) || is(d.To) })
	}
	isOut := func(word int) bool { return word < 1 || word > len(table) }
	switch {
	case len(l) < 1, len(l) > api.MaxCorpus:
		return odds{}, api.ErrMany
	case isAny(func(text []int) bool { return len(text) < 1 || len(text) > api.MaxShort }):
		return odds{}, api.ErrLong
	case len(table) < 1, len(table) > api.MaxVoc:
		return odds{}, api.ErrMany
	}
	rows, ok := readRows(table)
	if !ok {
		return odds{}, api.ErrForm
	}
	if isAny(func(text []int) bool { return slices.ContainsFunc(text, isOut) }) {
		return odds{}, api.ErrRange
	}
	o := oddsOf(rows)
	if !o.areWhole() {
		return odds{}, api.ErrRange
	}
	return o, api.OK
}

// readRows of a table; false: it is not written as one.
func readRows(table [][]string) ([][]numbers.Fraction, bool) {
	isOther := func(row []string) bool { return len(row) != len(table) }
	if slices.ContainsFunc(table, isOther) {
		return nil, false
	}
	rows := make([][]numbers.Fraction, len(table))
	for i, row := range table {
		for _, text := range row {
			f, ok := numbers.ReadFraction(text)
			if !ok {
				return nil, false
			}
			rows[i] = append(rows[i], f)
		}
	}
	return rows, true
}

// oddsOf fractions, which are brought over the same.
func oddsOf(rows [][]numbers.Fraction) odds {
	o := odds{tops: make([][]numbers.Whole, len(rows)), whole: numbers.Of(1)}
	for _, row := range rows {
		for _, f := range row {
			o.whole = numbers.Least(o.whole, f.Bottom)
		}
	}
	for i, row := range rows {
		for _, f := range row {
			times, _ := o.whole.Over(f.Bottom)
			o.tops[i] = append(o.tops[i], f.Top.Times(times))
		}
	}
	return o
}

// areWhole tells whether each row is 1 together.
func (o odds) areWhole() bool {
	isOff := func(row []numbers.Whole) bool { return sum(row).Against(o.whole) != 0 }
	return !slices.ContainsFunc(o.tops, isOff)
}

func sum(l []numbers.Whole) numbers.Whole {
	var all numbers.Whole
	for _, n := range l {
		all = all.Plus(n)
	}
	return all
}

// of a word of From and one of To, over what is whole.
func (o odds) of(from, to int) numbers.Whole { return o.tops[from-1][to-1] }

// ofWords is what all words of From have for a word of To, over what is whole.
func (o odds) ofWords(from []int, to int) numbers.Whole {
	var all numbers.Whole
	for _, word := range from {
		all = all.Plus(o.of(word, to))
	}
	return all
}

// isNought tells whether a duo's chance is 0.
func (o odds) isNought(d api.Duo) bool {
	return slices.ContainsFunc(d.To, func(to int) bool { return o.ofWords(d.From, to).IsZero() })
}

// ofAll duos: their chances, multiplied.
func (o odds) ofAll(l []api.Duo) numbers.Fraction {
	top, bottom := numbers.Of(1), numbers.Of(1)
	for _, d := range l {
		for _, to := range d.To {
			top = top.Times(o.ofWords(d.From, to))
			bottom = bottom.Times(o.whole).Times(numbers.Of(len(d.From)))
		}
	}
	return numbers.Part(top, bottom)
}
