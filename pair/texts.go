package pair

import (
	"cmp"
	"slices"
	"strings"

	"wordhoard/api"
)

// texts, each once, with a byte for each word. Of more than may be told it is
// only known that they are many: then there are many of all that they stand in, too.
type texts struct {
	all  []string
	met  map[string]struct{}
	many bool
}

// one text of one word, or of none.
func one(words ...byte) texts { return texts{all: []string{string(words)}} }

func (t *texts) isNone() bool { return len(t.all) == 0 && !t.many }

// put a text there, if it is new.
func (t *texts) put(text []byte) {
	if _, there := t.met[string(text)]; there || t.many {
		return
	}
	if len(t.all) == api.MaxTold {
		*t = texts{many: true}
		return
	}
	if t.met == nil {
		t.met = map[string]struct{}{}
	}
	own := string(text)
	t.met[own] = struct{}{}
	t.all = append(t.all, own)
}

// putAll of others.
func (t *texts) putAll(others texts) {
	if others.many {
		*t = texts{many: true}
	}
	for _, text := range others.all {
		t.put([]byte(text))
	}
}

// and has each text with each one of others, of which there are some, behind it.
func (t *texts) and(others texts) texts {
	if t.many || others.many {
		return texts{many: true}
	}
	var both texts
	var text []byte
	for _, ahead := range t.all {
		for _, behind := range others.all {
			text = append(append(text[:0], ahead...), behind...)
			both.put(text)
		}
		if both.many {
			break
		}
	}
	return both
}

// told as lists of words: first the shorter ones, then as lists are compared.
func (t *texts) told() [][]int {
	all := slices.Clone(t.all)
	slices.SortFunc(all, func(a, b string) int { return cmp.Or(cmp.Compare(len(a), len(b)), strings.Compare(a, b)) })
	var lists [][]int
	for _, text := range all {
		var list []int
		for i := range len(text) {
			list = append(list, int(text[i]))
		}
		lists = append(lists, list)
	}
	return lists
}
