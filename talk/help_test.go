package talk

import (
	"slices"
	"strings"
	"testing"

	"wordhoard/api"
)

// draw tells numbers that look like chance, the same each time.
type draw uint64

func (d *draw) n(n int) int {
	*d = *d*6364136223846793005 + 1442695040888963407
	return int(uint64(*d) >> 33 % uint64(n))
}

func (d *draw) value() string {
	return []string{"", "a", "b", "ab", "\xff", "\u00e9", "a\x00"}[d.n(7)]
}

// told is drawn out of few things, so that the same is often told twice.
func (d *draw) told(slots int) api.Told {
	return api.Told{Slot: d.n(slots), Version: 1 + d.n(4), Who: 1 + d.n(3), Value: d.value(), Open: d.n(2) == 0}
}

// wrong is told, and is not to be heard.
func (d *draw) wrong(slots int) api.Told {
	x := d.told(slots)
	switch d.n(6) {
	case 0:
		x.Slot = -1
	case 1:
		x.Slot = slots + d.n(2)
	case 2:
		x.Version = -d.n(2)
	case 3:
		x.Version = api.MaxVersion + 1
	case 4:
		x.Who = 10 * d.n(2)
	case 5:
		x.Value = strings.Repeat("x", api.MaxValue+1)
	}
	return x
}

func newTalker(t *testing.T, who, slots int) *Talker {
	t.Helper()
	x, e := New(who, slots)
	if x == nil || e != api.OK {
		t.Fatalf("%d, %d slots: %d", who, slots, e)
	}
	return x
}

// Kinds of events.
const (
	said = iota
	heard
	took
)

type event struct {
	kind int
	told api.Told
}

// diary has all that happened to a talker, and goes through it anew for each question.
type diary struct {
	who, slots int
	events     []event
}

// isLater goes by the words of the document.
func isLater(a, b api.Told) bool {
	if a.Version != b.Version {
		return a.Version > b.Version
	}
	if a.Who != b.Who {
		return a.Who > b.Who
	}
	return slices.Compare([]byte(a.Value), []byte(b.Value)) > 0
}

func isEntry(a, b api.Told) bool {
	a.Open, b.Open = false, false
	return a == b
}

// entry of a slot, and since which event it is that.
func (y *diary) entry(slot int) (api.Told, int) {
	entry, since := api.Told{Slot: slot}, 0
	for i, v := range y.events {
		if v.told.Slot != slot {
			continue
		}
		switch {
		case v.kind == said:
			entry = api.Told{Slot: slot, Version: entry.Version + 1, Who: y.who, Value: v.told.Value}
			since = i
		case v.kind == heard && isLater(v.told, entry):
			entry = v.told
			since = i
		}
	}
	entry.Open = false
	return entry, since
}

func (y *diary) knows(slot int) bool {
	entry, since := y.entry(slot)
	return slices.ContainsFunc(y.events[min(since, len(y.events)):], func(v event) bool { return v.kind == heard && isEntry(v.told, entry) })
}

func (y *diary) owes(slot int) bool {
	entry, _ := y.entry(slot)
	for _, v := range slices.Backward(y.events) {
		if v.kind == took {
			return false
		}
		if v.kind == heard && isEntry(v.told, entry) && v.told.Open {
			return true
		}
	}
	return false
}

func (y *diary) tell() []api.Told {
	var l []api.Told
	for slot := range y.slots {
		if entry, _ := y.entry(slot); entry.Version > 0 {
			l = append(l, entry)
		}
	}
	return l
}

func (y *diary) take() []api.Told {
	var l []api.Told
	for _, entry := range y.tell() {
		entry.Open = !y.knows(entry.Slot)
		if entry.Open || y.owes(entry.Slot) {
			l = append(l, entry)
		}
	}
	y.events = append(y.events, event{kind: took})
	return l
}

// mind is a talker with its diary.
type mind struct {
	*Talker
	diary
}

func newMind(t *testing.T, who, slots int) *mind {
	t.Helper()
	return &mind{newTalker(t, who, slots), diary{who: who, slots: slots}}
}

func (m *mind) hear(t *testing.T, l []api.Told) {
	t.Helper()
	if e := m.Hear(l); e != api.OK {
		t.Fatalf("%v: %d", l, e)
	}
	for _, told := range l {
		m.events = append(m.events, event{heard, told})
	}
}

func (m *mind) say(t *testing.T, slot int, value string) {
	t.Helper()
	if e := m.Say(slot, value); e != api.OK {
		t.Fatalf("%d, %q: %d", slot, value, e)
	}
	m.events = append(m.events, event{said, api.Told{Slot: slot, Value: value}})
}

// held against the diary.
func (m *mind) held(t *testing.T) {
	t.Helper()
	if got, want := m.Tell(), m.tell(); !slices.Equal(got, want) {
		t.Fatalf("it tells %v, not %v, behind %v", got, want, m.events)
	}
}

func (m *mind) takes(t *testing.T) []api.Told {
	t.Helper()
	got, want := m.Take(), m.take()
	if !slices.Equal(got, want) {
		t.Fatalf("it takes %v, not %v, behind %v", got, want, m.events)
	}
	return got
}
