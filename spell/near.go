package spell

import (
	"cmp"
	"slices"
	"sync"
	"sync/atomic"

	"wordhoard/api"
)

const (
	maxMost = 9
	lookers = 8
	tooLong = -1 // stands where a word has too many units to be looked at
)

// Near words.
func Near(words []string, a string, most int) ([]api.Close, api.Errno) {
	if len(words) > api.MaxWords {
		return nil, api.ErrMany
	}
	if most < 0 || most > maxMost {
		return nil, api.ErrRange
	}
	from, ok := units(a)
	if !ok {
		return nil, api.ErrLong
	}
	fars := look(words, from)
	if slices.Contains(fars, tooLong) {
		return nil, api.ErrLong
	}
	return nearest(fars, most), api.OK
}

// look tells of each word how far it is from a text, or tooLong. The lookers
// share nothing but the number of the next word, which each word has once, so
// that no two of them write in one place.
func look(words, from []string) []int {
	fars := make([]int, len(words))
	var next atomic.Int64
	var wait sync.WaitGroup
	for range min(lookers, len(words)) {
		wait.Add(1)
		go func() {
			defer wait.Done()
			for i := next.Add(1) - 1; i < int64(len(words)); i = next.Add(1) - 1 {
				fars[i] = farOf(words[i], from)
			}
		}()
	}
	wait.Wait()
	return fars
}

// farOf is how far a word is from a text, or tooLong.
func farOf(word string, from []string) int {
	to, ok := units(word)
	if !ok {
		return tooLong
	}
	return apart(from, to)
}

// nearest are the words that are not too far, by how far, then by number.
func nearest(fars []int, most int) []api.Close {
	var near []api.Close
	for i, far := range fars {
		if far <= most {
			near = append(near, api.Close{Word: i, Far: far})
		}
	}
	slices.SortStableFunc(near, func(x, y api.Close) int { return cmp.Compare(x.Far, y.Far) })
	return near
}
