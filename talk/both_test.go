package talk

import (
	"fmt"
	"slices"
	"testing"

	"wordhoard/api"
)

// two talkers, and all that was ever told by each, which may be lost, or come twice, or late.
type two struct {
	minds [2]*mind
	told  [2][][]api.Told
	said  map[api.Told]int
	last  [2][]api.Told
}

func newTwo(t *testing.T, first, second, slots int) *two {
	t.Helper()
	return &two{minds: [2]*mind{newMind(t, first, slots), newMind(t, second, slots)}, said: map[api.Told]int{}}
}

func (w *two) say(t *testing.T, who, slot int, value string) {
	t.Helper()
	w.minds[who].say(t, slot, value)
	for _, told := range w.minds[who].Tell() {
		if told.Slot == slot {
			w.said[told]++
		}
	}
}

func (w *two) take(t *testing.T, who int) []api.Told {
	t.Helper()
	l := w.minds[who].takes(t)
	w.told[who] = append(w.told[who], l)
	return l
}

// held against O4: no entry becomes earlier, and each was said by somebody.
func (w *two) held(t *testing.T) {
	t.Helper()
	for who, m := range w.minds {
		m.held(t)
		now := m.Tell()
		for _, was := range w.last[who] {
			i := slices.IndexFunc(now, func(x api.Told) bool { return x.Slot == was.Slot })
			if i < 0 || isLater(was, now[i]) {
				t.Fatalf("%v was there, and now %v is", was, now)
			}
		}
		for _, entry := range now {
			if w.said[entry] == 0 {
				t.Fatalf("nobody said %v", entry)
			}
		}
		w.last[who] = now
	}
}

// latest of all that was said, by slot.
func (w *two) latest() []api.Told {
	var l []api.Told
	for entry := range w.said {
		i := slices.IndexFunc(l, func(x api.Told) bool { return x.Slot == entry.Slot })
		if i < 0 {
			l = append(l, entry)
		} else if isLater(entry, l[i]) {
			l[i] = entry
		}
	}
	slices.SortFunc(l, func(a, b api.Told) int { return a.Slot - b.Slot })
	return l
}

// turn of both, in which all comes through: one behind the other, or both at once.
func (w *two) turn(t *testing.T, first int, atOnce bool) {
	t.Helper()
	l := w.take(t, first)
	if !atOnce {
		w.minds[1-first].hear(t, l)
	}
	w.minds[first].hear(t, w.take(t, 1-first))
	if atOnce {
		w.minds[1-first].hear(t, l)
	}
	w.held(t)
}

// settled, when three turns have come through: both have the latest, and are silent.
func (w *two) settled(t *testing.T, first int, atOnce bool) {
	t.Helper()
	for range 3 {
		w.turn(t, first, atOnce)
	}
	for who, m := range w.minds {
		if l := m.Tell(); !slices.Equal(l, w.latest()) {
			t.Fatalf("%d has %v, and %v is the latest", who, l, w.latest())
		}
	}
	for who := range w.minds {
		if l := w.take(t, who); len(l) > 0 {
			t.Fatalf("%d says %v", who, l)
		}
	}
}

// O4: lines on which anything is lost, or comes twice, or late, again and again.
func TestTwoComeToTheSame(t *testing.T) {
	d := draw(3)
	for range 500 {
		slots := 1 + d.n(3)
		first := 1 + d.n(9)
		w := newTwo(t, first, 1+(first+d.n(3))%9, slots)
		for range 4 {
			for range d.n(40) {
				who := d.n(2)
				switch d.n(4) {
				case 0:
					w.say(t, who, d.n(slots), d.value())
				case 1:
					w.take(t, who)
				default:
					if n := len(w.told[1-who]); n > 0 {
						w.minds[who].hear(t, w.told[1-who][d.n(n)])
					}
				}
				w.held(t)
			}
			w.settled(t, d.n(2), d.n(2) == 0)
		}
	}
}

// O4: all that can happen within so many steps, with one slot: each says, takes, and hears any that was told.
func TestTwoComeToTheSameWhateverHappens(t *testing.T) {
	scripts := 0
	var from func(script []func(w *two), steps int)
	from = func(script []func(w *two), steps int) {
		play := func() *two {
			w := newTwo(t, 1, 2, 1)
			for _, step := range script {
				step(w)
			}
			return w
		}
		w := play()
		scripts++
		w.held(t)
		if steps == 0 {
			w.settled(t, 0, false)
			play().settled(t, 1, true)
			return
		}
		for who := range 2 {
			next := []func(w *two){
				func(w *two) { w.say(t, who, 0, fmt.Sprint(len(w.said)%2)) },
				func(w *two) { w.take(t, who) },
			}
			for i := range w.told[1-who] {
				next = append(next, func(w *two) { w.minds[who].hear(t, w.told[1-who][i]) })
			}
			for _, step := range next {
				from(append(slices.Clip(script), step), steps-1)
			}
		}
	}
	from(nil, 6)
	if scripts < 10000 {
		t.Errorf("only %d scripts", scripts)
	}
}

// O4: both have the same number, and say other things with the same version.
func TestTwoOfOneNumber(t *testing.T) {
	w := newTwo(t, 5, 5, 1)
	w.say(t, 0, 0, "a")
	w.say(t, 1, 0, "b")
	w.settled(t, 0, true)
	if l := w.minds[0].Tell(); l[0].Value != "b" {
		t.Errorf("it is %v", l)
	}
	w.say(t, 0, 0, "c")
	w.say(t, 1, 0, "c")
	w.settled(t, 1, false)
	if l := w.minds[0].Tell(); l[0] != (api.Told{Version: 2, Who: 5, Value: "c"}) {
		t.Errorf("it is %v", l)
	}
}

// O4: the most slots, all full, with values as long as may be.
func TestTwoWithTheMostSlots(t *testing.T) {
	w := newTwo(t, 1, 9, api.MaxSlots)
	for slot := range api.MaxSlots {
		for who := range 2 {
			w.say(t, who, slot, fmt.Sprintf("%0*d", api.MaxValue, slot+who))
		}
	}
	w.settled(t, 0, false)
	if l := w.minds[0].Tell(); len(l) != api.MaxSlots || l[api.MaxSlots-1].Who != 9 {
		t.Errorf("it is %v", l)
	}
}
