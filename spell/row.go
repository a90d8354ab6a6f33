package spell

import "wordhoard/api"

// row has, at n, how far a beginning of a text is from the first n units of
// another one.
type row [api.MaxUnits + 1]int

// first is the row of the empty beginning, from which all is put.
func first(to []string) row {
	var r row
	for n := range to {
		r[n+1] = n + 1
	}
	return r
}

// next is the row of the beginning that has one unit more.
func (r row) next(unit string, to []string) row {
	turned := r[0]
	r[0]++
	for n, other := range to {
		far := turned
		if unit != other {
			far = 1 + min(turned, r[n], r[n+1])
		}
		turned, r[n+1] = r[n+1], far
	}
	return r
}

// apart is how far two texts are apart.
func apart(from, to []string) int {
	r := first(to)
	for _, unit := range from {
		r = r.next(unit, to)
	}
	return r[len(to)]
}

// rows are those of all beginnings of a text, from the empty one on.
func rows(from, to []string) []row {
	all := make([]row, 0, len(from)+1)
	r := first(to)
	all = append(all, r)
	for _, unit := range from {
		r = r.next(unit, to)
		all = append(all, r)
	}
	return all
}
