package prove

import "wordhoard/api"

// mostOf is of how many claims a rule is, at most.
const mostOf = 2

func all(a, b int) api.Claim { return api.Claim{A: a, B: b} }

func some(a, b int) api.Claim { return api.Claim{Some: true, A: a, B: b} }

// comes tells whether a claim comes by a rule of others.
func comes(rule int, c api.Claim, of ...api.Claim) bool {
	switch len(of) {
	case 0:
		return rule == api.LineSelf && c == all(c.A, c.A)
	case 1:
		return comesOfOne(rule, c, of[0])
	case 2:
		return comesOfTwo(rule, c, of[0], of[1])
	}
	return false
}

func comesOfOne(rule int, c, p api.Claim) bool {
	switch rule {
	case api.LineTurn:
		return p == all(p.A, p.B) && c == all(-p.B, -p.A)
	case api.LineVoid:
		return p == all(p.A, -p.A) && c == all(p.A, c.B)
	case api.LineFull:
		return p == all(-p.B, p.B) && c == all(c.A, p.B)
	case api.LineSwap:
		return p == some(p.A, p.B) && c == some(p.B, p.A)
	case api.LineThere:
		return p == some(p.A, p.B) && c == some(p.A, p.A)
	}
	return false
}

func comesOfTwo(rule int, c, p, q api.Claim) bool {
	switch rule {
	case api.LineChain:
		return p == all(p.A, q.A) && q == all(q.A, q.B) && c == all(p.A, q.B)
	case api.LineLead:
		return p == some(p.A, q.A) && q == all(q.A, q.B) && c == some(p.A, q.B)
	case api.LineClash:
		return p == all(p.A, p.B) && q == some(p.A, -p.B)
	}
	return false
}

// isRight tells whether a line is right, behind those ahead of it.
func isRight(l api.Line, premises []api.Claim, ahead []api.Line) bool {
	if l.Rule == api.LineGiven {
		return len(l.From) == 1 && isPlace(l.From[0], len(premises)) && premises[l.From[0]] == l.Claim
	}
	if len(l.From) > mostOf {
		return false
	}
	var of []api.Claim
	for _, n := range l.From {
		if !isPlace(n, len(ahead)) {
			return false
		}
		of = append(of, ahead[n].Claim)
	}
	return comes(l.Rule, l.Claim, of...)
}

func isPlace(n, many int) bool { return n >= 0 && n < many }
