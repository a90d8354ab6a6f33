package sound

import (
	"fmt"
	"slices"
	"testing"

	"wordhoard/api"
)

// roomy has the same elements, and room behind them with what nobody may change.
func roomy[T any](l []T, behind T) []T {
	all := append(slices.Clone(l), behind, behind, behind)
	return all[:len(l)]
}

func roomySpots(l []api.Spot) []api.Spot {
	l = slices.Clone(l)
	for i := range l {
		l[i].Any = roomy(l[i].Any, 77)
	}
	return roomy(l, api.Spot{Any: []int{77}})
}

func roomyChange(c api.Change) api.Change {
	c.From, c.To = roomy(c.From, 77), roomy(c.To, 77)
	c.Left, c.Right = roomySpots(c.Left), roomySpots(c.Right)
	return c
}

// whole tells all of a change, the room behind its lists too.
func whole(c api.Change) string {
	told := fmt.Sprint(c, c.From[:cap(c.From)], c.To[:cap(c.To)])
	for _, l := range [][]api.Spot{c.Left, c.Right} {
		told += fmt.Sprint(l[:cap(l)])
		for _, s := range l {
			told += fmt.Sprint(s.Any[:cap(s.Any)])
		}
	}
	return told
}

func spoilText(l []int) {
	for i := range l[:cap(l)] {
		l[:cap(l)][i] = -5
	}
}

func spoilChange(c api.Change) {
	spoilText(c.From)
	spoilText(c.To)
	for _, s := range slices.Concat(c.Left, c.Right) {
		spoilText(s.Any)
	}
}

func TestWhatIsHandedInIsOnlyRead(t *testing.T) { // P2, P3
	d := new(draw)
	for range 300 {
		kinds := 1 + d.n(4)
		c, text := roomyChange(d.change(kinds)), roomy(d.text(0, 12, kinds), 77)
		l := roomy([]api.Change{c, roomyChange(d.change(kinds))}, api.Change{Kinds: 77})
		was := fmt.Sprint(whole(l[0]), whole(l[1]), l[:3][2], text[:cap(text)])
		one, _ := Apply(c, text)
		all, _ := All(l, text)
		none, _ := All(nil, text)
		net, _ := Net(c)
		nets, _ := Nets(l)
		told := fmt.Sprint(one, all, none, net, nets)
		if fmt.Sprint(whole(l[0]), whole(l[1]), l[:3][2], text[:cap(text)]) != was {
			t.Fatal("what was handed in was changed")
		}
		again, _ := Apply(c, text)
		allAgain, _ := All(l, text)
		noneAgain, _ := All(nil, text)
		netAgain, _ := Net(c)
		netsAgain, _ := Nets(l)
		if fmt.Sprint(again, allAgain, noneAgain, netAgain, netsAgain) != told {
			t.Fatal("the same was not answered twice")
		}
		for _, x := range [][]int{again, allAgain, noneAgain} {
			spoilText(x)
		}
		if fmt.Sprint(whole(l[0]), whole(l[1]), l[:3][2], text[:cap(text)]) != was {
			t.Fatal("an answer shares memory with what was handed in")
		}
		for _, x := range l {
			spoilChange(x)
		}
		spoilText(text)
		if fmt.Sprint(one, all, none, net, nets) != told {
			t.Fatal("what was handed in is kept in an answer")
		}
	}
}
