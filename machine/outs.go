package machine

import (
	"slices"

	"wordhoard/api"
)

// Outs tells what walks write that read in.
func Outs(m api.Machine, in []int, long int) ([][]int, api.Errno) {
	if e := Check(m); e != api.OK {
		return nil, e
	}
	if len(in) > api.MaxWalk || !within(long, 0, api.MaxOuts) {
		return nil, api.ErrLong
	}
	if !areSymbols(in) {
		return nil, api.ErrRange
	}
	return newTrack(m, in, long).tell(long)
}

// A track is a machine along the text that it reads. Its nodes are states at
// places of the text: the one of a state at a place is place*states + state.
type track struct {
	in      []int
	states  int
	leaving [][]api.Arc
	need    []int // of each node: the fewest symbols that are still written from there to an end
}

func newTrack(m api.Machine, in []int, long int) *track {
	t := &track{in: in, states: m.States, leaving: leaving(m)}
	t.need = make([]int, m.States*(len(in)+1))
	for node := range t.need {
		t.need[node] = long + 1
	}
	var ends []int
	for _, final := range m.Finals {
		ends = append(ends, len(in)*m.States+final.State)
	}
	into := arriving(m)
	for written := 0; written <= long; written++ {
		ends = t.measure(into, ends, written)
	}
	return t
}

// measure goes back from nodes that need so many symbols along arcs that write
// nothing, and answers those that need one more (or that it has measured).
func (t *track) measure(into [][]api.Arc, nodes []int, written int) []int {
	var more []int
	for len(nodes) > 0 {
		node := nodes[len(nodes)-1]
		nodes = nodes[:len(nodes)-1]
		if t.need[node] <= written {
			continue
		}
		t.need[node] = written
		for _, arc := range into[node%t.states] {
			from, ok := t.back(node, arc)
			if ok && arc.Out == 0 {
				nodes = append(nodes, from)
			} else if ok {
				more = append(more, from)
			}
		}
	}
	return more
}

// back is the node from which an arc (turned round) comes to this one.
func (t *track) back(node int, arc api.Arc) (int, bool) {
	place := node / t.states
	if arc.In == 0 {
		return place*t.states + arc.To, true
	}
	if place == 0 || arc.In != t.in[place-1] {
		return 0, false
	}
	return (place-1)*t.states + arc.To, true
}

// on is the node to which an arc goes from this one.
func (t *track) on(node int, arc api.Arc) (int, bool) {
	place := node / t.states
	if arc.In == 0 {
		return place*t.states + arc.To, true
	}
	if place == len(t.in) || arc.In != t.in[place] {
		return 0, false
	}
	return (place+1)*t.states + arc.To, true
}

// A start is the beginning of an answer, and which set it leads to.
type start struct {
	text []int
	set  int
}

// A front has all starts of one length from which an answer can still come,
// and the sets of nodes that they lead to: many starts may share one.
type front struct {
	starts []start
	sets   []set
	ends   []bool // whether a set has a node from which nothing need be written
}

func (f *front) put(t *track, s set) int {
	ends := false
	for node := range s.members() {
		ends = ends || t.need[node] == 0
	}
	f.sets = append(f.sets, s)
	f.ends = append(f.ends, ends)
	return len(f.sets) - 1
}

// tell makes all answers longer by one symbol at a time. As every start has an
// answer of its own, there are too many answers as soon as there are too many starts.
func (t *track) tell(long int) ([][]int, api.Errno) {
	var told [][]int
	if t.need[0] > long {
		return nil, api.OK
	}
	now := &front{}
	first := newSet(len(t.need))
	first.add(0)
	now.starts = append(now.starts, start{nil, now.put(t, first)})
	for left := long; ; left-- {
		for _, s := range now.starts {
			if now.ends[s.set] {
				told = append(told, s.text)
			}
		}
		if left == 0 {
			return told, api.OK
		}
		next, e := t.longer(now, left, api.MaxTold-len(told))
		if e != api.OK {
			return nil, e
		}
		now = next
	}
}

// A branch leads on from a set by a symbol to a set of the next front.
type branch struct{ symbol, set int }

// longer is the front of the starts that have one symbol more, in order;
// there may be so many of these as there is room for.
func (t *track) longer(now *front, left, room int) (*front, api.Errno) {
	next := &front{}
	met := map[string]int{}
	branches := make([][]branch, len(now.sets))
	for _, s := range now.starts {
		if branches[s.set] == nil {
			branches[s.set] = t.branch(now.sets[s.set], left, next, met)
		}
		for _, b := range branches[s.set] {
			if len(next.starts) == room {
				return nil, api.ErrMany
			}
			text := append(slices.Clone(s.text), b.symbol)
			next.starts = append(next.starts, start{text, b.set})
		}
	}
	return next, api.OK
}

// branch tells by which symbols it goes on from a set, if so many may still be
// written; sets that were met are not put into the next front again.
func (t *track) branch(s set, left int, next *front, met map[string]int) []branch {
	branches := []branch{}
	for symbol, to := range t.write(s, left) {
		if to == nil {
			continue
		}
		key := to.key()
		number, ok := met[key]
		if !ok {
			number = next.put(t, to)
			met[key] = number
		}
		branches = append(branches, branch{symbol, number})
	}
	return branches
}

// write has, by symbols, the nodes that one comes to by writing one; nodes
// that would need more than is left are left out.
func (t *track) write(s set, left int) [api.MaxSymbol + 1]set {
	var to [api.MaxSymbol + 1]set
	t.spread(s, left, func(node int, arc api.Arc) {
		if t.need[node] >= left {
			return
		}
		if to[arc.Out] == nil {
			to[arc.Out] = newSet(len(t.need))
		}
		to[arc.Out].add(node)
	})
	return to
}

// spread adds to a set what is come to without writing, and tells of each arc
// that writes, with the node that it goes to.
func (t *track) spread(s set, left int, tell func(node int, arc api.Arc)) {
	nodes := slices.Collect(s.members())
	for len(nodes) > 0 {
		node := nodes[len(nodes)-1]
		nodes = nodes[:len(nodes)-1]
		for _, arc := range t.leaving[node%t.states] {
			to, ok := t.on(node, arc)
			if !ok {
				continue
			}
			if arc.Out != 0 {
				tell(to, arc)
			} else if t.need[to] <= left && s.add(to) {
				nodes = append(nodes, to)
			}
		}
	}
}
