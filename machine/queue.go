package machine

// An entry of a queue: a state, and what it costs to come to it.
type entry struct{ cost, state int }

// A queue hands out its cheapest entry first: none costs less than the one at
// half its place. (The library's heap would box each entry.)
type queue []entry

func (q *queue) push(e entry) {
	*q = append(*q, e)
	l := *q
	at := len(l) - 1
	for at > 0 && e.cost < l[(at-1)/2].cost {
		l[at] = l[(at-1)/2]
		at = (at - 1) / 2
	}
	l[at] = e
}

// pop is only asked of a queue that has something.
func (q *queue) pop() entry {
	l := *q
	first, last := l[0], l[len(l)-1]
	l = l[:len(l)-1]
	*q = l
	if len(l) > 0 {
		l.sink(last)
	}
	return first
}

// sink puts e where the first entry was, and moves up what is cheaper.
func (q queue) sink(e entry) {
	at := 0
	for {
		kid := 2*at + 1
		if kid+1 < len(q) && q[kid+1].cost < q[kid].cost {
			kid++
		}
		if kid >= len(q) || q[kid].cost >= e.cost {
			break
		}
		q[at] = q[kid]
		at = kid
	}
	q[at] = e
}
