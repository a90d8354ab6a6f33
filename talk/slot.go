package talk

import (
	"cmp"
	"strings"

	"wordhoard/api"
)

// slot is its entry, as it is told: Open, as long as it is not known that the
// other one has it.
type slot struct {
	api.Told
	owed bool // it was heard as open, and not told since
}

// put an entry there, of which nothing was heard yet. The value is a copy, as
// it may be a piece of a longer text, which is not to be kept.
func (s *slot) put(version, who int, value string) {
	s.Version, s.Who, s.Value = version, who, strings.Clone(value)
	s.Open, s.owed = true, false
}

// entry is what is told of it, without whether that is open.
func (s *slot) entry() api.Told {
	told := s.Told
	told.Open = false
	return told
}

// hear an entry of the slot.
func (s *slot) hear(told api.Told) {
	order := compare(told, s.Told)
	if order < 0 {
		return
	}
	if order > 0 {
		s.put(told.Version, told.Who, told.Value)
	}
	s.Open = false
	s.owed = s.owed || told.Open
}

// compare two entries of a slot: above 0, if the first one is later; 0, if they are the same.
func compare(a, b api.Told) int {
	return cmp.Or(cmp.Compare(a.Version, b.Version), cmp.Compare(a.Who, b.Who), strings.Compare(a.Value, b.Value))
}
