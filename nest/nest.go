// Package nest: things that stand in one another.
package nest

import "wordhoard/api"

// Count tells how many things stand in one another, the outermost one with
// them; one more than most, if there are more, as they may go on without end.
func Count[T any](thing T, kids func(T) []T, most int) int {
	n := 1
	for _, kid := range kids(thing) {
		if n > most {
			break
		}
		n += Count(kid, kids, most-n)
	}
	return n
}

// Check tells that there are too many things in one another, or else what is
// wrong with the first one of them, each ahead of its kids.
func Check[T any](thing T, kids func(T) []T, most int, wrong func(T) api.Errno) api.Errno {
	if Count(thing, kids, most) > most {
		return api.ErrMany
	}
	return checkEach(thing, kids, wrong)
}

func checkEach[T any](thing T, kids func(T) []T, wrong func(T) api.Errno) api.Errno {
	if e := wrong(thing); e != api.OK {
		return e
	}
	for _, kid := range kids(thing) {
		if e := checkEach(kid, kids, wrong); e != api.OK {
			return e
		}
	}
	return api.OK
}
