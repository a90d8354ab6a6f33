package machine

import (
	"fmt"
	"slices"
	"testing"

	"wordhoard/api"
)

// roomy has the same elements, and room behind them with what nobody may change.
func roomy[T any](l []T, behind T) []T {
	all := append(slices.Clone(l), behind, behind, behind)
	return all[:len(l)]
}

func roomyMachine(m api.Machine) api.Machine {
	m.Arcs = roomy(m.Arcs, api.Arc{From: 77})
	m.Finals = roomy(m.Finals, api.Final{State: 77})
	return m
}

// whole tells all of a machine, the room behind its lists too.
func whole(m api.Machine) string {
	return fmt.Sprint(m.States, len(m.Arcs), len(m.Finals), m.Arcs[:cap(m.Arcs)], m.Finals[:cap(m.Finals)])
}

// spoil changes all that can be come to from a machine.
func spoil(m api.Machine) {
	arcs, finals := m.Arcs[:cap(m.Arcs)], m.Finals[:cap(m.Finals)]
	for i := range arcs {
		arcs[i] = api.Arc{From: -5, W: -5}
	}
	for i := range finals {
		finals[i] = api.Final{State: -5}
	}
}

func TestWhatIsHandedInIsOnlyRead(t *testing.T) { // P2, P3
	d := new(draw)
	for range 100 {
		a, b := roomyMachine(d.plain()), roomyMachine(d.plain())
		in, out := roomy([]int{1, 2}, 77), roomy([]int{2, 1}, 77)
		wasA, wasB := whole(a), whole(b)
		answers := func() []api.Machine {
			var all []api.Machine
			for _, name := range []string{"Repeat", "Turn", "Side", "Sure"} {
				m, _ := oneHanded()[name](a)
				all = append(all, m)
			}
			for _, name := range []string{"Either", "Chain", "Through"} {
				m, _ := twoHanded()[name](a, b)
				all = append(all, m)
			}
			return all
		}
		texts := func() string {
			cost, ok, e := Cost(a, in, out)
			l, f := Outs(a, in, 3)
			text, apart, g := Apart(a, b)
			return fmt.Sprint(cost, ok, e, l, f, text, apart, g)
		}
		first, told := answers(), texts()
		was := fmt.Sprint(first)
		if whole(a) != wasA || whole(b) != wasB || fmt.Sprint(in[:3], out[:3]) != "[1 2 77] [2 1 77]" {
			t.Fatal("what was handed in was changed")
		}
		if fmt.Sprint(answers()) != was || texts() != told {
			t.Fatal("the same was not answered twice")
		}
		for _, m := range answers() {
			spoil(m)
		}
		if whole(a) != wasA || whole(b) != wasB || fmt.Sprint(answers()) != was {
			t.Fatal("an answer shares memory with what was handed in")
		}
		spoil(a)
		spoil(b)
		if fmt.Sprint(first) != was {
			t.Fatal("what was handed in is kept in an answer")
		}
	}
}

func TestListsOfAnAnswerShareNothing(t *testing.T) { // P2
	m := loops(1, 2)
	m.Arcs = append(m.Arcs, api.Arc{In: 1})
	l, e := Outs(m, slices.Repeat([]int{1}, 7), 7)
	if e != api.OK || !slices.EqualFunc(l, words(2, 7), slices.Equal) {
		t.Fatalf("Outs: %v %d", l, e)
	}
	was := fmt.Sprint(l)
	for i := range l {
		kept := l[i]
		l[i] = slices.Clone(kept)
		all := kept[:cap(kept)]
		for j := range all {
			all[j] = 99
		}
	}
	if fmt.Sprint(l) != was {
		t.Error("a list shares memory with another one")
	}
	text, ok, _ := Apart(line(1, 3), line(1, 4))
	text[0] = 9
	if again, okAgain, _ := Apart(line(1, 3), line(1, 4)); !ok || !okAgain || !slices.Equal(again, []int{1, 1, 1}) {
		t.Errorf("Apart: %v %v", again, okAgain)
	}
}
