// Package nest: things that stand in one another.
package nest

// Count tells how many things stand in one another, the outermost one with
// them; one more than most, if there are more, as they may go on without end.
func Count[T any](thing T, kids func(T) []T, most int) int {
	n := 1
	for _, kid := range kids(thing) {
		if n > most {
			break
		}
		n += Count(kid, kids, most-n)
	}
	return n
}
