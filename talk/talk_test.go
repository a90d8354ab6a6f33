package talk

import (
	"fmt"
	"math"
	"slices"
	"strings"
	"testing"

	"wordhoard/api"
)

// O1, P1
func TestNew(t *testing.T) {
	for _, c := range []struct {
		who, slots int
		e          api.Errno
	}{
		{1, 1, api.OK}, {9, api.MaxSlots, api.OK}, {5, 7, api.OK},
		{0, 1, api.ErrRange}, {10, 1, api.ErrRange}, {-1, 1, api.ErrRange}, {math.MinInt, 1, api.ErrRange}, {math.MaxInt, 1, api.ErrRange},
		{1, 0, api.ErrMany}, {1, -1, api.ErrMany}, {9, api.MaxSlots + 1, api.ErrMany}, {9, math.MaxInt, api.ErrMany}, {9, math.MinInt, api.ErrMany},
		{0, 0, api.ErrRange}, {10, api.MaxSlots + 1, api.ErrRange},
	} {
		x, e := New(c.who, c.slots)
		if e != c.e || (x != nil) != (e == api.OK) {
			t.Errorf("%d, %d slots: %v %d", c.who, c.slots, x, e)
		}
		if x != nil && (len(x.Tell()) > 0 || len(x.Take()) > 0) {
			t.Errorf("%d, %d slots: something is told", c.who, c.slots)
		}
	}
}

// O1, O2: the document's example, and each slot by itself.
func TestSay(t *testing.T) {
	x := newTalker(t, 4, 3)
	if e := x.Say(1, "x"); e != api.OK {
		t.Fatal(e)
	}
	if l := x.Take(); !slices.Equal(l, []api.Told{{Slot: 1, Version: 1, Who: 4, Value: "x", Open: true}}) {
		t.Errorf("it takes %v", l)
	}
	if x.Say(1, "") != api.OK || x.Say(0, "\xff\x00") != api.OK {
		t.Error("it can't be said")
	}
	want := []api.Told{{Slot: 0, Version: 1, Who: 4, Value: "\xff\x00"}, {Slot: 1, Version: 2, Who: 4}}
	if l := x.Tell(); !slices.Equal(l, want) {
		t.Errorf("it tells %v", l)
	}
	for i := range want {
		want[i].Open = true
	}
	for range 3 { // open, until the other one is heard
		if l := x.Take(); !slices.Equal(l, want) {
			t.Errorf("it takes %v", l)
		}
	}
}

// O1, P1: what is wrong, in the order of the document, changes nothing.
func TestSayOfWrongThings(t *testing.T) {
	x := newTalker(t, 9, 2)
	most, long := strings.Repeat("x", api.MaxValue), strings.Repeat("x", api.MaxValue+1)
	if e := x.Hear([]api.Told{{Slot: 1, Version: api.MaxVersion - 1, Who: 1, Value: "v"}}); e != api.OK {
		t.Fatal(e)
	}
	if e := x.Say(1, most); e != api.OK {
		t.Errorf("the last version: %d", e)
	}
	want := fmt.Sprint(x.Tell())
	for _, c := range []struct {
		slot  int
		value string
		e     api.Errno
	}{
		{-1, "", api.ErrNone}, {2, "", api.ErrNone}, {2, long, api.ErrNone}, {api.MaxSlots - 1, "", api.ErrNone},
		{math.MinInt, "", api.ErrNone}, {math.MaxInt, long, api.ErrNone}, {1 << 32, "", api.ErrNone},
		{0, long, api.ErrLong}, {1, long, api.ErrLong}, {0, strings.Repeat("\u00e9", 51), api.ErrLong}, {1, strings.Repeat("x", 1<<20), api.ErrLong},
		{1, "", api.ErrMany}, {1, most, api.ErrMany},
	} {
		if e := x.Say(c.slot, c.value); e != c.e {
			t.Errorf("%d, %d bytes: %d, not %d", c.slot, len(c.value), e, c.e)
		}
		if l := fmt.Sprint(x.Tell()); l != want {
			t.Errorf("%d, %d bytes: then it tells %v", c.slot, len(c.value), l)
		}
	}
	if l := x.Take(); !slices.Equal(l, []api.Told{{Slot: 1, Version: api.MaxVersion, Who: 9, Value: most, Open: true}}) {
		t.Errorf("it takes %v", l)
	}
}

// O2, O3: which of two entries is later.
func TestLater(t *testing.T) {
	l := []api.Told{ // rising
		{Version: 1, Who: 1, Value: ""}, {Version: 1, Who: 1, Value: "\x00"}, {Version: 1, Who: 1, Value: "a"}, {Version: 1, Who: 1, Value: "ab"}, {Version: 1, Who: 1, Value: "b"},
		{Version: 1, Who: 1, Value: "\u00e9"}, {Version: 1, Who: 1, Value: "\xff"}, {Version: 1, Who: 2, Value: ""}, {Version: 1, Who: 9, Value: "a"}, {Version: 2, Who: 1, Value: ""},
		{Version: 10, Who: 1, Value: ""}, {Version: api.MaxVersion, Who: 1, Value: ""}, {Version: api.MaxVersion, Who: 9, Value: "\xff\xff"},
	}
	for i, a := range l {
		for j, b := range l {
			x := newTalker(t, 5, 1)
			if x.Hear([]api.Told{a}) != api.OK || x.Hear([]api.Told{b}) != api.OK {
				t.Fatal("it can't be heard")
			}
			if got := x.Tell(); !slices.Equal(got, []api.Told{l[max(i, j)]}) {
				t.Errorf("%v, %v: it tells %v", a, b, got)
			}
		}
	}
}

// O2, O3: what is known, and what is owed.
func TestKnownAndOwed(t *testing.T) {
	own := api.Told{Slot: 1, Version: 1, Who: 1, Value: "x"}
	open := func(x api.Told) api.Told { x.Open = true; return x }
	later := api.Told{Slot: 1, Version: 1, Who: 2, Value: "y"}
	latest := api.Told{Slot: 1, Version: 3, Who: 2, Value: "z"}
	for _, c := range []struct {
		name  string
		heard []api.Told
		want  []api.Told
	}{
		{"nothing heard", nil, []api.Told{open(own)}},
		{"its own entry", []api.Told{own}, nil},
		{"its own entry, as open", []api.Told{open(own)}, []api.Told{own}},
		{"its own entry, twice", []api.Told{own, open(own)}, []api.Told{own}},
		{"its own entry, twice, first as open", []api.Told{open(own), own}, []api.Told{own}},
		{"another value", []api.Told{{Slot: 1, Version: 1, Who: 1, Value: "w"}}, []api.Told{open(own)}},
		{"another slot", []api.Told{{Slot: 0, Version: 1, Who: 1, Value: "x"}}, []api.Told{open(own)}},
		{"a later entry", []api.Told{later}, nil},
		{"a later entry, as open", []api.Told{open(later)}, []api.Told{later}},
		{"an earlier entry behind that", []api.Told{later, open(own)}, nil},
		{"later ones, the last one not as open", []api.Told{open(own), open(later), latest}, nil},
		{"later ones, the last one as open", []api.Told{own, later, open(latest)}, []api.Told{latest}},
		{"later ones, the last one first", []api.Told{latest, open(later), open(own)}, nil},
	} {
		x := newTalker(t, 1, 2)
		x.Say(1, "x")
		if e := x.Hear(c.heard); e != api.OK {
			t.Fatalf("%s: %d", c.name, e)
		}
		if l := x.Take(); !slices.Equal(l, c.want) {
			t.Errorf("%s: it takes %v", c.name, l)
		}
		var rest []api.Told // what is still open; nothing is owed any more
		for _, told := range c.want {
			if told.Open {
				rest = append(rest, told)
			}
		}
		if l := x.Take(); !slices.Equal(l, rest) {
			t.Errorf("%s: then it takes %v", c.name, l)
		}
	}
}

// O2: what is said anew is open, whatever was known or owed of what was there.
func TestSayBehindHear(t *testing.T) {
	x := newTalker(t, 3, 1)
	was := api.Told{Version: 4, Who: 2, Value: "v", Open: true}
	if x.Hear([]api.Told{was}) != api.OK || x.Say(0, "v") != api.OK {
		t.Fatal("it can't be said")
	}
	now := api.Told{Version: 5, Who: 3, Value: "v"}
	if e := x.Hear([]api.Told{was, now}); e != api.OK {
		t.Fatal(e)
	}
	if l := x.Take(); len(l) > 0 {
		t.Errorf("it takes %v", l)
	}
	if l := x.Tell(); !slices.Equal(l, []api.Told{now}) {
		t.Errorf("it tells %v", l)
	}
}

// O3, P1: what is wrong, one by one, in the order of the document, changes nothing.
func TestHearOfWrongThings(t *testing.T) {
	long := strings.Repeat("x", api.MaxValue+1)
	right := api.Told{Slot: 1, Version: 7, Who: 2, Value: "v", Open: true}
	with := func(change func(*api.Told)) api.Told {
		x := right
		change(&x)
		return x
	}
	none := with(func(x *api.Told) { x.Slot, x.Version, x.Value = 3, 0, long })
	outside := with(func(x *api.Told) { x.Version, x.Value = 0, long })
	tooLong := with(func(x *api.Told) { x.Value = long })
	for _, c := range []struct {
		name string
		l    []api.Told
		e    api.Errno
	}{
		{"no slot", []api.Told{none}, api.ErrNone},
		{"a slot below 0", []api.Told{with(func(x *api.Told) { x.Slot = -1 })}, api.ErrNone},
		{"a slot of other forms", []api.Told{with(func(x *api.Told) { x.Slot = api.MaxSlots - 1 })}, api.ErrNone},
		{"the least slot", []api.Told{with(func(x *api.Told) { x.Slot = math.MinInt })}, api.ErrNone},
		{"the greatest slot", []api.Told{with(func(x *api.Told) { x.Slot = math.MaxInt })}, api.ErrNone},
		{"version 0", []api.Told{outside}, api.ErrRange},
		{"a version below 0", []api.Told{with(func(x *api.Told) { x.Version = -1 })}, api.ErrRange},
		{"a version too great", []api.Told{with(func(x *api.Told) { x.Version = api.MaxVersion + 1 })}, api.ErrRange},
		{"the greatest version", []api.Told{with(func(x *api.Told) { x.Version = math.MaxInt })}, api.ErrRange},
		{"who 0", []api.Told{with(func(x *api.Told) { x.Who = 0 })}, api.ErrRange},
		{"who 10", []api.Told{with(func(x *api.Told) { x.Who = 10 })}, api.ErrRange},
		{"who below 0, too long", []api.Told{with(func(x *api.Told) { x.Who, x.Value = -1, long })}, api.ErrRange},
		{"too long", []api.Told{tooLong}, api.ErrLong},
		{"behind what is right", []api.Told{right, right, tooLong}, api.ErrLong},
		{"too long ahead of none", []api.Told{tooLong, none}, api.ErrLong},
		{"outside ahead of none", []api.Told{right, outside, none, tooLong}, api.ErrRange},
		{"none ahead of too long", []api.Told{none, tooLong}, api.ErrNone},
		{"too many", slices.Repeat([]api.Told{right}, api.MaxSlots+1), api.ErrMany},
		{"too many, all wrong", make([]api.Told, api.MaxSlots+1), api.ErrMany},
		{"far too many", make([]api.Told, 1<<20), api.ErrMany},
		{"the most, the last one wrong", append(slices.Repeat([]api.Told{right}, api.MaxSlots-1), none), api.ErrNone},
		{"the most", slices.Repeat([]api.Told{right}, api.MaxSlots), api.OK},
		{"nothing", nil, api.OK},
	} {
		x, y := newTalker(t, 1, 3), newTalker(t, 1, 3)
		for _, z := range []*Talker{x, y} {
			z.Say(1, "own")
			z.Hear([]api.Told{{Slot: 2, Version: 1, Who: 2, Open: true}})
		}
		if e := x.Hear(c.l); e != c.e {
			t.Errorf("%s: %d", c.name, e)
		}
		if c.e == api.OK {
			y.Hear(slices.Clip(c.l)[:min(1, len(c.l))])
		}
		if a, b := fmt.Sprint(x.Tell(), x.Take(), x.Take()), fmt.Sprint(y.Tell(), y.Take(), y.Take()); a != b {
			t.Errorf("%s: then it is %s, not %s", c.name, a, b)
		}
	}
}

// O1, O2, O3: all that happens, in any order, against what happened so far.
func TestAgainstDiary(t *testing.T) {
	d := draw(1)
	takes := 0
	for range 400 {
		slots := 1 + d.n(3)
		m := newMind(t, 1+d.n(3), slots)
		for range 60 {
			switch d.n(6) {
			case 0:
				m.say(t, d.n(slots), d.value())
			case 1:
				takes += len(m.takes(t))
			case 2, 3:
				var l []api.Told
				for range d.n(4) {
					l = append(l, d.told(slots))
				}
				m.hear(t, l)
			case 4: // its own entries come back
				l := m.Tell()
				for i := range l {
					l[i].Open = d.n(2) == 0
				}
				m.hear(t, l)
			case 5:
				l := []api.Told{d.told(slots), d.wrong(slots)}
				if m.Hear(l) == api.OK || m.Say(slots, "") == api.OK || m.Say(-1, "") == api.OK || m.Say(0, strings.Repeat("x", 101)) == api.OK {
					t.Fatalf("what is wrong is heard: %v", l)
				}
			}
			m.held(t)
		}
	}
	if takes < 1000 {
		t.Errorf("only %d were taken", takes)
	}
}

// P3: no talker hangs on another one, nor on a copy of it.
func TestTalkersAreApart(t *testing.T) {
	a, b := newTalker(t, 1, 2), newTalker(t, 1, 2)
	a.Say(0, "x")
	c := *a
	a.Say(1, "y")
	c.Say(0, "z")
	c.Hear([]api.Told{{Slot: 0, Version: 2, Who: 1, Value: "z"}})
	if l := a.Take(); len(l) != 2 || l[0].Value != "x" {
		t.Errorf("it takes %v", l)
	}
	if l := c.Take(); len(l) != 0 {
		t.Errorf("the copy takes %v", l)
	}
	if len(b.Tell()) > 0 || len(b.Take()) > 0 {
		t.Error("who said nothing tells something")
	}
}

// P2, P3: what is handed in is only read and not kept, and what comes out is the caller's; Tell changes nothing.
func TestMemory(t *testing.T) {
	d := draw(2)
	for range 200 {
		m := newMind(t, 1+d.n(2), 3)
		for range 20 {
			var l []api.Told
			for range d.n(4) {
				l = append(l, d.told(3))
			}
			behind := api.Told{Slot: 77}
			all := append(slices.Clone(l), behind, behind)
			m.hear(t, all[:len(l)])
			if !slices.Equal(all, append(slices.Clone(l), behind, behind)) {
				t.Fatalf("%v was changed", l)
			}
			clear(all)
			if d.n(3) == 0 {
				m.say(t, d.n(3), d.value())
			}
			out := m.Tell()
			clear(out[:cap(out)])
			m.held(t)
			out = m.takes(t)
			clear(out[:cap(out)])
			m.held(t)
		}
	}
}
