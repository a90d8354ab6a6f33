package sound

import (
	"wordhoard/api"
	"wordhoard/machine"
)

// Net is the machine of a change.
func Net(c api.Change) (api.Machine, api.Errno) {
	if e := Check(c); e != api.OK {
		return api.Machine{}, e
	}
	return net(c), api.OK
}

// Nets is the machine of changes one behind the other.
func Nets(l []api.Change) (api.Machine, api.Errno) {
	if e := checkAll(l); e != api.OK {
		return api.Machine{}, e
	}
	if len(l) == 0 {
		return api.Machine{}, api.ErrMany
	}
	whole := net(l[0])
	for _, c := range l[1:] {
		var e api.Errno
		if whole, e = machine.Through(whole, net(c)); e != api.OK {
			return api.Machine{}, e
		}
	}
	return whole, api.OK
}

// node is a state of a net. As an arc writes one symbol at most, a node may
// owe some that are still to be written; over tells that nothing more is read.
type node struct {
	owed  string
	place place
	over  bool
}

// builder numbers nodes in the order in which they are come to.
type builder struct {
	numbers map[node]int
	nodes   []node
	made    api.Machine
}

// net is the machine of a right change. It has few states: a change has at
// most 8 places, and owes at most two symbols behind an arc that reads.
func net(c api.Change) api.Machine {
	b := builder{numbers: map[node]int{}}
	b.number(node{place: begin(c)})
	for at := 0; at < len(b.nodes); at++ {
		n := b.nodes[at]
		if n.owed != "" {
			b.arc(at, 0, n)
			continue
		}
		if n.over {
			b.final(at)
			continue
		}
		for symbol := 1; symbol <= c.Kinds; symbol++ {
			next, written := n.place.hear(c, symbol)
			b.arc(at, symbol, node{owed: owed(written), place: next})
		}
		if written := n.place.end(c); len(written) > 0 {
			b.arc(at, 0, node{owed: owed(written), over: true})
		} else {
			b.final(at)
		}
	}
	b.made.States = len(b.nodes)
	return b.made
}

func owed(written []int) string {
	var text []byte
	for _, symbol := range written {
		text = append(text, byte(symbol))
	}
	return string(text)
}

func (b *builder) number(n node) int {
	at, met := b.numbers[n]
	if !met {
		at = len(b.nodes)
		b.numbers[n] = at
		b.nodes = append(b.nodes, n)
	}
	return at
}

// arc writes the first symbol that is owed.
func (b *builder) arc(from, in int, n node) {
	out := 0
	if n.owed != "" {
		out, n.owed = int(n.owed[0]), n.owed[1:]
	}
	b.made.Arcs = append(b.made.Arcs, api.Arc{From: from, To: b.number(n), In: in, Out: out})
}

func (b *builder) final(at int) {
	b.made.Finals = append(b.made.Finals, api.Final{State: at})
}
