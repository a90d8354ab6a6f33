package heads

// ring tells a word from which one comes back to it, going up; 0: there is none.
func ring(up []int) int {
	met := make([]int, len(up)+1) // from which word one came there first
words:
	for i := range up {
		from := i + 1
		for at := from; at != 0; at = up[at-1] {
			switch met[at] {
			case 0:
				met[at] = from
			case from:
				return at
			default:
				continue words // that way has been gone, and led to 0
			}
		}
	}
	return 0
}

// ringOf are all words of the ring in which a word is.
func ringOf(up []int, word int) []int {
	all := []int{word}
	for at := up[word-1]; at != word; at = up[at-1] {
		all = append(all, at)
	}
	return all
}
