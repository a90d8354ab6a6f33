package nest

import (
	"testing"

	"wordhoard/api"
)

type thing struct{ kids []thing }

func kidsOf(t thing) []thing { return t.kids }

// slow counts all of them.
func slow(t thing) int {
	n := 1
	for _, kid := range t.kids {
		n += slow(kid)
	}
	return n
}

// draw tells numbers that look like chance, the same each time.
type draw uint64

func (d *draw) n(n int) int {
	*d = *d*6364136223846793005 + 1442695040888963407
	return int(uint64(*d) >> 33 % uint64(n))
}

func (d *draw) thing(deep int) thing {
	var t thing
	if deep > 0 {
		for range d.n(4) {
			t.kids = append(t.kids, d.thing(deep-1))
		}
	}
	return t
}

func TestCount(t *testing.T) {
	d := draw(1)
	few, many := 0, 0
	for range 20000 {
		thing := d.thing(4)
		most := d.n(30)
		want := slow(thing)
		if want <= most {
			few++
		} else {
			many++
			want = most + 1
		}
		if got := Count(thing, kidsOf, most); got != want {
			t.Fatalf("%d of %v up to %d, not %d", got, thing, most, want)
		}
	}
	if few < 1000 || many < 1000 {
		t.Errorf("only %d and %d", few, many)
	}
}

// What has no end, or is wide or deep, is looked at no further than need be.
func TestCountStops(t *testing.T) {
	endless := thing{kids: make([]thing, 2)}
	endless.kids[0], endless.kids[1] = endless, endless
	deep := thing{}
	for range 1 << 16 {
		deep = thing{kids: []thing{deep}}
	}
	for _, x := range []thing{endless, deep, {kids: make([]thing, 1<<20)}} {
		looked := 0
		got := Count(x, func(t thing) []thing { looked++; return t.kids }, 15)
		if got != 16 || looked > 16 {
			t.Errorf("%d, with %d looked at", got, looked)
		}
	}
}

// Things of any type are counted.
func TestCountOfOthers(t *testing.T) {
	if n := Count(10, func(n int) []int { return make([]int, n) }, 100); n != 11 {
		t.Errorf("%d", n)
	}
	halves := func(s string) []string {
		if len(s) < 2 {
			return nil
		}
		return []string{s[:len(s)/2], s[len(s)/2:]}
	}
	if n := Count("abcd", halves, 100); n != 7 {
		t.Errorf("%d", n)
	}
}

// node has a number beside its kids.
type node struct {
	e    api.Errno
	kids []node
}

func nodesIn(n node) []node { return n.kids }

func (d *draw) node(deep int) node {
	var n node
	if d.n(8) == 0 {
		n.e = api.Errno(1 + d.n(5))
	}
	if deep > 0 {
		for range d.n(4) {
			n.kids = append(n.kids, d.node(deep-1))
		}
	}
	return n
}

// slowErrors tells the errors of all nodes, each ahead of its kids.
func slowErrors(n node) []api.Errno {
	l := []api.Errno{n.e}
	for _, kid := range n.kids {
		l = append(l, slowErrors(kid)...)
	}
	return l
}

// What is wrong with the first one is told, and that there are too many ahead of that.
func TestCheck(t *testing.T) {
	d := draw(2)
	seen := map[api.Errno]int{}
	for range 20000 {
		n := d.node(3)
		most := 1 + d.n(30)
		l := slowErrors(n)
		want := api.OK
		for _, e := range l {
			if e != api.OK {
				want = e
				break
			}
		}
		if len(l) > most {
			want = api.ErrMany
		}
		if got := Check(n, nodesIn, most, func(n node) api.Errno { return n.e }); got != want {
			t.Fatalf("%d of %v up to %d, not %d", got, n, most, want)
		}
		seen[want]++
	}
	for _, e := range []api.Errno{api.OK, 1, 2, 3, 4, 5, api.ErrMany} {
		if seen[e] < 100 {
			t.Errorf("only %d of %d", seen[e], e)
		}
	}
}

// No more is looked at once something is wrong, or if there are too many.
func TestCheckStops(t *testing.T) {
	bad := node{kids: []node{{}, {e: api.ErrForm}, {e: api.ErrKind}}}
	for _, c := range []struct{ most, looked int }{{4, 3}, {3, 0}} {
		looked := 0
		Check(bad, nodesIn, c.most, func(n node) api.Errno { looked++; return n.e })
		if looked != c.looked {
			t.Errorf("up to %d: %d were looked at, not %d", c.most, looked, c.looked)
		}
	}
}
