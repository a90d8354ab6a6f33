package sound

import (
	"slices"

	"wordhoard/api"
)

// draw tells numbers that look like chance, the same each time.
type draw uint64

func (d *draw) n(n int) int {
	*d = *d*6364136223846793005 + 1442695040888963407
	return int(uint64(*d) >> 33 % uint64(n))
}

func (d *draw) text(least, most, kinds int) []int {
	var l []int
	for range least + d.n(most-least+1) {
		l = append(l, 1+d.n(kinds))
	}
	return l
}

func (d *draw) spots(most, edge, kinds int) []api.Spot {
	var l []api.Spot
	for range d.n(most + 1) {
		l = append(l, api.Spot{Any: d.text(0, 4, kinds)})
	}
	if len(l) > edge {
		l[edge].Edge = d.n(2) == 0
	}
	return l
}

func (d *draw) change(kinds int) api.Change {
	return api.Change{Kinds: kinds, From: d.text(1, 2, kinds), To: d.text(0, 2, kinds), Left: d.spots(2, 0, kinds), Right: d.spots(1, 0, kinds)}
}

func (d *draw) changes(n, kinds int) []api.Change {
	var l []api.Change
	for range n {
		l = append(l, d.change(kinds))
	}
	return l
}

// words are all texts of up to so many symbols, the shorter ones first, then as lists are compared.
func words(kinds, long int) [][]int {
	all := [][]int{nil}
	for from := 0; long > 0; long-- {
		end := len(all)
		for _, w := range all[from:end] {
			for c := 1; c <= kinds; c++ {
				all = append(all, append(slices.Clone(w), c))
			}
		}
		from = end
	}
	return all
}

// slowApply lays the edges down as symbols 0 of their own, and holds each spot against what lies there.
func slowApply(c api.Change, text []int) []int {
	written := []int{0, 0}
	rest := append(slices.Clone(text), 0, 0, 0)
	match := func(spots []api.Spot, symbols []int) bool {
		for i, s := range spots {
			if symbols[i] == 0 && !s.Edge || symbols[i] != 0 && !slices.Contains(s.Any, symbols[i]) {
				return false
			}
		}
		return true
	}
	for rest[0] != 0 {
		n := len(c.From)
		if slices.Equal(rest[:n], c.From) && match(c.Left, written[len(written)-len(c.Left):]) && match(c.Right, rest[n:]) {
			written = append(written, c.To...)
			rest = rest[n:]
		} else {
			written = append(written, rest[0])
			rest = rest[1:]
		}
	}
	return written[2:]
}

func slowAll(l []api.Change, text []int) []int {
	for _, c := range l {
		text = slowApply(c, text)
	}
	return text
}

func ones(n int) []int { return slices.Repeat([]int{1}, n) }

func isZero(m api.Machine) bool { return m.States == 0 && len(m.Arcs) == 0 && len(m.Finals) == 0 }
