package chain

import (
	"testing"

	"wordhoard/api"
)

// draw tells numbers that look like chance, the same each time.
type draw uint64

func (d *draw) n(n int) int {
	*d = *d*6364136223846793005 + 1442695040888963407
	return int(uint64(*d) >> 33 % uint64(n))
}

// reach goes from kind to kind, as far as it comes.
func reach(g api.Grammar, from int, met []bool) {
	for _, r := range g.Rules {
		if r.Head == from && len(r.Body) == 1 && r.Body[0] >= 0 && !met[r.Body[0]] {
			met[r.Body[0]] = true
			reach(g, r.Body[0], met)
		}
	}
}

func TestOf(t *testing.T) {
	d := draw(1)
	round := [2]int{}
	for range 2000 {
		g := api.Grammar{Kinds: 1 + d.n(api.MaxKinds)}
		for range d.n(15) {
			body := []int{d.n(g.Kinds), d.n(g.Kinds), -1 - d.n(3)}
			first := d.n(3)
			g.Rules = append(g.Rules, api.Rule{Head: d.n(g.Kinds), Body: body[first : first+1+d.n(3-first)]})
		}
		leads := Of(g)
		goRound := 0
		for from := range leads {
			met := make([]bool, api.MaxKinds)
			reach(g, from, met)
			if met[from] {
				goRound = 1
			}
			for to := range met {
				if leads[from][to] != met[to] {
					t.Fatalf("%v: from %d to %d it is %v", g, from, to, leads[from][to])
				}
			}
		}
		if leads.GoRound() != (goRound == 1) {
			t.Fatalf("%v: it is %v that a kind leads back to itself", g, leads.GoRound())
		}
		round[goRound]++
	}
	if round[0] < 200 || round[1] < 200 {
		t.Errorf("only %d and %d", round[0], round[1])
	}
}
