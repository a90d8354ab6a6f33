package forms

import (
	"fmt"
	"math"
	"slices"
	"testing"

	"wordhoard/api"
	"wordhoard/sound"
)

// draw tells numbers that look like chance, the same each time.
type draw uint64

func (d *draw) n(n int) int {
	*d = *d*6364136223846793005 + 1442695040888963407
	return int(uint64(*d) >> 33 % uint64(n))
}

func (d *draw) text(least, most, kinds int) []int {
	var l []int
	for range least + d.n(most-least+1) {
		l = append(l, 1+d.n(kinds))
	}
	return l
}

func (d *draw) spots(most, kinds int) []api.Spot {
	var l []api.Spot
	for i := range d.n(most + 1) {
		l = append(l, api.Spot{Any: d.text(0, 4, kinds), Edge: i == 0 && d.n(2) == 0})
	}
	return l
}

func (d *draw) lexicon(stems, cells, long int) api.Lexicon {
	kinds := 1 + d.n(4)
	l := api.Lexicon{Kinds: kinds}
	for range d.n(stems + 1) {
		l.Stems = append(l.Stems, api.Stem{Form: d.text(1, long, kinds), Class: d.n(3)})
	}
	for range d.n(cells + 1) {
		l.Cells = append(l.Cells, api.Cell{Class: d.n(3), Before: d.text(0, min(long, 4), kinds), Behind: d.text(0, min(long, 3), kinds)})
	}
	for range d.n(4) {
		l.Changes = append(l.Changes, api.Change{Kinds: kinds, From: d.text(1, 2, kinds), To: d.text(0, 2, kinds), Left: d.spots(2, kinds), Right: d.spots(1, kinds)})
	}
	return l
}

func ones(n int) []int { return slices.Repeat([]int{1}, n) }

func example() api.Lexicon {
	return api.Lexicon{Kinds: 3,
		Stems:   []api.Stem{{Form: []int{1, 2}}, {Form: []int{2}, Class: 1}, {Form: []int{1}}},
		Cells:   []api.Cell{{Behind: []int{1}}, {Class: 1, Before: []int{3}}, {}},
		Changes: []api.Change{{Kinds: 3, From: []int{2}, Right: []api.Spot{{Any: []int{1}}}}}}
}

// slowForm puts a form together by hand.
func slowForm(l api.Lexicon, stem, cell int) []int {
	var text []int
	for _, part := range [][]int{l.Cells[cell].Before, l.Stems[stem].Form, l.Cells[cell].Behind} {
		text = append(text, part...)
	}
	for _, c := range l.Changes {
		text, _ = sound.Apply(c, text)
	}
	return text
}

// readings are all, by stem, then by cell.
func readings(l api.Lexicon) []api.Reading {
	var all []api.Reading
	for i := range l.Stems {
		for k := range l.Cells {
			if l.Stems[i].Class == l.Cells[k].Class {
				all = append(all, api.Reading{Stem: i, Cell: k})
			}
		}
	}
	return all
}

// A lexicon, and what Check tells of it.
type verdict struct {
	name string
	l    api.Lexicon
	want api.Errno
}

func verdicts() []verdict {
	with := func(f func(*api.Lexicon)) api.Lexicon {
		l := example()
		f(&l)
		return l
	}
	stem := func(s api.Stem) api.Lexicon { return with(func(l *api.Lexicon) { l.Stems[1] = s }) }
	cell := func(c api.Cell) api.Lexicon { return with(func(l *api.Lexicon) { l.Cells[2] = c }) }
	changes := func(c ...api.Change) api.Lexicon { return with(func(l *api.Lexicon) { l.Changes = c }) }
	right := example().Changes[0]
	return []verdict{
		{"right", example(), api.OK},
		{"next to nothing", api.Lexicon{Kinds: 1}, api.OK},
		{"most kinds", api.Lexicon{Kinds: 4, Stems: []api.Stem{{Form: []int{4}}}}, api.OK},
		{"most stems", with(func(l *api.Lexicon) { l.Stems = slices.Repeat([]api.Stem{{Form: []int{1}}}, 40) }), api.OK},
		{"most cells", with(func(l *api.Lexicon) { l.Cells = make([]api.Cell, 20) }), api.OK},
		{"most changes", changes(right, right, right), api.OK},
		{"longest stem, highest class", stem(api.Stem{Form: ones(8), Class: 99}), api.OK},
		{"longest cell, highest class", cell(api.Cell{Class: 99, Before: ones(4), Behind: ones(3)}), api.OK},
		{"nothing", api.Lexicon{}, api.ErrMany},
		{"more kinds", with(func(l *api.Lexicon) { l.Kinds = 5 }), api.ErrMany},
		{"kinds below", with(func(l *api.Lexicon) { l.Kinds = math.MinInt }), api.ErrMany},
		{"more stems", with(func(l *api.Lexicon) { l.Stems = make([]api.Stem, 41) }), api.ErrMany},
		{"more cells", with(func(l *api.Lexicon) { l.Cells = make([]api.Cell, 21) }), api.ErrMany},
		{"more changes", changes(right, right, right, right), api.ErrMany},
		{"many ahead of long", with(func(l *api.Lexicon) { l.Stems[0].Form, l.Changes = nil, make([]api.Change, 4) }), api.ErrMany},
		{"empty stem", stem(api.Stem{}), api.ErrLong},
		{"longer stem", stem(api.Stem{Form: ones(9)}), api.ErrLong},
		{"longer before", cell(api.Cell{Before: ones(5)}), api.ErrLong},
		{"longer behind", cell(api.Cell{Behind: ones(4)}), api.ErrLong},
		{"long ahead of range", with(func(l *api.Lexicon) { l.Stems[0].Class, l.Cells[2].Behind = 100, ones(4) }), api.ErrLong},
		{"stem's class below", stem(api.Stem{Form: []int{1}, Class: -1}), api.ErrRange},
		{"stem's class above", stem(api.Stem{Form: []int{1}, Class: 100}), api.ErrRange},
		{"cell's class below", cell(api.Cell{Class: -1}), api.ErrRange},
		{"cell's class above", cell(api.Cell{Class: 100}), api.ErrRange},
		{"stem's symbol above", stem(api.Stem{Form: []int{1, 4}}), api.ErrRange},
		{"stem's symbol nought", stem(api.Stem{Form: []int{0}}), api.ErrRange},
		{"symbol above before", cell(api.Cell{Before: []int{4}}), api.ErrRange},
		{"symbol below before", cell(api.Cell{Before: []int{-1}}), api.ErrRange},
		{"symbol above behind", cell(api.Cell{Behind: []int{1, math.MaxInt}}), api.ErrRange},
		{"symbol nought behind", cell(api.Cell{Behind: []int{0}}), api.ErrRange},
		{"range ahead of changes", with(func(l *api.Lexicon) { l.Cells[0].Class, l.Changes[0].From = -1, nil }), api.ErrRange},
		{"a change of no kinds", changes(right, api.Change{}), api.ErrMany},
		{"a change from nothing", changes(api.Change{Kinds: 3}), api.ErrLong},
		{"a change from above", changes(right, right, api.Change{Kinds: 3, From: []int{4}}), api.ErrRange},
		{"a change with an edge within", changes(api.Change{Kinds: 3, From: []int{1}, Left: []api.Spot{{}, {Edge: true}}}), api.ErrForm},
		{"a change of other kinds", changes(right, api.Change{Kinds: 2, From: []int{1}}), api.ErrForm},
		{"what a change is itself goes ahead of its kinds", changes(api.Change{Kinds: 2, From: []int{3}}), api.ErrRange},
		{"the first change goes ahead", changes(api.Change{Kinds: 2, From: []int{1}}, api.Change{Kinds: 3}), api.ErrForm},
		{"the first change goes ahead, turned", changes(api.Change{Kinds: 3}, api.Change{Kinds: 2, From: []int{1}}), api.ErrLong},
	}
}

func TestCheck(t *testing.T) { // D1, P1
	for _, v := range verdicts() {
		if e := Check(v.l); e != v.want {
			t.Errorf("%s: Check %d, want %d", v.name, e, v.want)
		}
		if v.want == api.OK {
			continue
		}
		// what else is wrong, too: what Check tells goes ahead of it
		if f, e := Make(v.l, -1, 99); f != nil || e != v.want {
			t.Errorf("%s: Make %v %d", v.name, f, e)
		}
		if r, e := Read(v.l, make([]int, 61)); r != nil || e != v.want {
			t.Errorf("%s: Read %v %d", v.name, r, e)
		}
		if f, e := Table(v.l); f != nil || e != v.want {
			t.Errorf("%s: Table %v %d", v.name, f, e)
		}
		if a, b, ok, e := Clash(v.l); a != (api.Reading{}) || b != (api.Reading{}) || ok || e != v.want {
			t.Errorf("%s: Clash %v %v %v %d", v.name, a, b, ok, e)
		}
	}
}

func TestMake(t *testing.T) { // D2
	l := example()
	for _, x := range []struct {
		stem, cell int
		form       []int
		e          api.Errno
	}{
		{0, 0, []int{1, 1}, api.OK},
		{0, 2, []int{1, 2}, api.OK},
		{1, 1, []int{3, 2}, api.OK},
		{2, 0, []int{1, 1}, api.OK},
		{2, 2, []int{1}, api.OK},
		{0, 1, nil, api.ErrNone},
		{1, 0, nil, api.ErrNone},
		{-1, 0, nil, api.ErrNone},
		{0, -1, nil, api.ErrNone},
		{3, 0, nil, api.ErrNone},
		{0, 3, nil, api.ErrNone},
		{math.MaxInt, math.MinInt, nil, api.ErrNone},
	} {
		if f, e := Make(l, x.stem, x.cell); e != x.e || !slices.Equal(f, x.form) || e != api.OK && f != nil {
			t.Errorf("Make %d %d: %v %d", x.stem, x.cell, f, e)
		}
	}
	if f, e := Make(api.Lexicon{Kinds: 1}, 0, 0); f != nil || e != api.ErrNone {
		t.Errorf("Make of none: %v %d", f, e)
	}
	l.Changes = nil
	if f, e := Make(l, 0, 0); e != api.OK || !slices.Equal(f, []int{1, 2, 1}) {
		t.Errorf("Make without changes: %v %d", f, e)
	}
}

// longest has one form of 120 symbols in each of two cells.
func longest() api.Lexicon {
	grow := api.Change{Kinds: 1, From: []int{1}, To: []int{1, 1}}
	return api.Lexicon{Kinds: 1,
		Stems:   []api.Stem{{Form: ones(8)}},
		Cells:   []api.Cell{{Before: ones(4), Behind: ones(3)}, {Before: ones(4), Behind: ones(3)}},
		Changes: []api.Change{grow, grow, grow}}
}

func TestLongest(t *testing.T) { // D2, D3: too long to be read, but made and told
	l := longest()
	want := ones(120)
	if f, e := Make(l, 0, 1); e != api.OK || !slices.Equal(f, want) {
		t.Errorf("Make: %v %d", f, e)
	}
	if f, e := Table(l); e != api.OK || fmt.Sprint(f) != fmt.Sprint([][][]int{{want, want}}) {
		t.Errorf("Table: %v %d", f, e)
	}
	if a, b, ok, e := Clash(l); e != api.OK || !ok || a != (api.Reading{}) || b != (api.Reading{Cell: 1}) {
		t.Errorf("Clash: %v %v %v %d", a, b, ok, e)
	}
	if r, e := Read(l, want); r != nil || e != api.ErrLong {
		t.Errorf("Read: %v %d", r, e)
	}
	l.Changes = l.Changes[:2]
	if r, e := Read(l, ones(60)); e != api.OK || len(r) != 2 {
		t.Errorf("Read of 60: %v %d", r, e)
	}
}

func TestReadErrors(t *testing.T) { // D3, P1
	for _, x := range []struct {
		form []int
		want api.Errno
	}{
		{ones(60), api.OK}, {ones(61), api.ErrLong}, {make([]int, 61), api.ErrLong},
		{[]int{4}, api.ErrRange}, {[]int{1, 0}, api.ErrRange}, {[]int{math.MinInt}, api.ErrRange}, {nil, api.OK},
	} {
		if r, e := Read(example(), x.form); len(r) != 0 || e != x.want {
			t.Errorf("%v: %v %d", x.form, r, e)
		}
	}
}

func TestReadAndTableAndClash(t *testing.T) { // D3, D4
	l := example()
	if r, e := Read(l, []int{1, 1}); e != api.OK || !slices.Equal(r, []api.Reading{{Stem: 0, Cell: 0}, {Stem: 2, Cell: 0}}) {
		t.Errorf("Read: %v %d", r, e)
	}
	if f, e := Table(l); e != api.OK || fmt.Sprint(f) != "[[[1 1] [1 2]] [[3 2]] [[1 1] [1]]]" {
		t.Errorf("Table: %v %d", f, e)
	}
	if a, b, ok, e := Clash(l); e != api.OK || !ok || a != (api.Reading{}) || b != (api.Reading{Stem: 2}) {
		t.Errorf("Clash: %v %v %v %d", a, b, ok, e)
	}
	l.Stems[2].Class = 7
	if f, e := Table(l); e != api.OK || fmt.Sprint(f) != "[[[1 1] [1 2]] [[3 2]] []]" {
		t.Errorf("Table of a class without cells: %v %d", f, e)
	}
	if a, b, ok, e := Clash(l); e != api.OK || ok || a != b || a != (api.Reading{}) {
		t.Errorf("no Clash: %v %v %v %d", a, b, ok, e)
	}
	if f, e := Table(api.Lexicon{Kinds: 2}); e != api.OK || len(f) != 0 {
		t.Errorf("Table of nothing: %v %d", f, e)
	}
}

func TestFirstClash(t *testing.T) { // D3: by the first reading, not by the second
	l := api.Lexicon{Kinds: 4,
		Stems: []api.Stem{{Form: []int{1}}, {Form: []int{2}}, {Form: []int{2}}, {Form: []int{1}}},
		Cells: []api.Cell{{}}}
	if a, b, ok, e := Clash(l); e != api.OK || !ok || a != (api.Reading{}) || b != (api.Reading{Stem: 3}) {
		t.Errorf("Clash: %v %v %v %d", a, b, ok, e)
	}
}

// held holds all calls of a lexicon against what is put together by hand.
func held(t *testing.T, l api.Lexicon, others [][]int) {
	t.Helper()
	all := readings(l)
	table := make([][][]int, len(l.Stems))
	var made [][]int
	for _, r := range all {
		f, e := Make(l, r.Stem, r.Cell)
		if e != api.OK || !slices.Equal(f, slowForm(l, r.Stem, r.Cell)) {
			t.Fatalf("%v: Make %v: %v %d", l, r, f, e)
		}
		made = append(made, f)
		table[r.Stem] = append(table[r.Stem], f)
	}
	if f, e := Table(l); e != api.OK || len(f) != len(l.Stems) || fmt.Sprint(f) != fmt.Sprint(table) {
		t.Fatalf("%v: Table %v %d", l, f, e)
	}
	for _, form := range slices.Concat(made, others) {
		var want []api.Reading
		for i, r := range all {
			if slices.Equal(made[i], form) {
				want = append(want, r)
			}
		}
		if len(form) > api.MaxWalk {
			continue
		}
		if r, e := Read(l, form); e != api.OK || !slices.Equal(r, want) {
			t.Fatalf("%v: Read %v: %v %d, want %v", l, form, r, e, want)
		}
	}
	heldClash(t, l, all, made)
}

func heldClash(t *testing.T, l api.Lexicon, all []api.Reading, made [][]int) {
	t.Helper()
	var first, second api.Reading
	found := false
	for i := len(all) - 1; i >= 0; i-- {
		for k := len(all) - 1; k > i; k-- {
			if slices.Equal(made[i], made[k]) {
				first, second, found = all[i], all[k], true
			}
		}
	}
	if a, b, ok, e := Clash(l); e != api.OK || a != first || b != second || ok != found {
		t.Fatalf("%v: Clash %v %v %v %d, want %v %v %v", l, a, b, ok, e, first, second, found)
	}
}

func TestWhoMakesAFormReadsIt(t *testing.T) { // D2, D3, D4
	d := new(draw)
	for range 400 {
		l := d.lexicon(6, 5, 3)
		var others [][]int
		for range 10 {
			others = append(others, d.text(0, 4, l.Kinds))
		}
		held(t, l, others)
	}
	for range 10 {
		held(t, d.lexicon(40, 20, 8), nil)
	}
}

// roomy has the same elements, and room behind them with what nobody may change.
func roomy[T any](l []T, behind T) []T {
	all := append(slices.Clone(l), behind, behind, behind)
	return all[:len(l)]
}

func roomyLexicon(l api.Lexicon) api.Lexicon {
	l.Stems, l.Cells = slices.Clone(l.Stems), slices.Clone(l.Cells)
	for i := range l.Stems {
		l.Stems[i].Form = roomy(l.Stems[i].Form, 77)
	}
	for i := range l.Cells {
		l.Cells[i].Before, l.Cells[i].Behind = roomy(l.Cells[i].Before, 77), roomy(l.Cells[i].Behind, 77)
	}
	l.Stems, l.Cells = roomy(l.Stems, api.Stem{Class: 77}), roomy(l.Cells, api.Cell{Class: 77})
	l.Changes = roomy(l.Changes, api.Change{Kinds: 77})
	return l
}

// whole tells all of a lexicon, the room behind its lists too.
func whole(l api.Lexicon) string {
	told := fmt.Sprint(l, l.Stems[:cap(l.Stems)], l.Cells[:cap(l.Cells)], l.Changes[:cap(l.Changes)])
	for _, s := range l.Stems {
		told += fmt.Sprint(s.Form[:cap(s.Form)])
	}
	for _, c := range l.Cells {
		told += fmt.Sprint(c.Before[:cap(c.Before)], c.Behind[:cap(c.Behind)])
	}
	return told
}

func spoil(l []int) {
	for i := range l[:cap(l)] {
		l[:cap(l)][i] = -5
	}
}

func TestWhatIsHandedInIsOnlyRead(t *testing.T) { // P2, P3
	d := new(draw)
	for range 200 {
		l := roomyLexicon(d.lexicon(5, 5, 3))
		form := roomy(d.text(0, 2, l.Kinds), 77)
		was, wasForm := whole(l), fmt.Sprint(form[:cap(form)])
		ask := func() ([][][]int, []int, string) {
			table, e := Table(l)
			made, f := Make(l, 0, 0)
			r, g := Read(l, form)
			a, b, ok, h := Clash(l)
			return table, made, fmt.Sprint(table, e, made, f, r, g, a, b, ok, h)
		}
		table, made, told := ask()
		if _, _, again := ask(); again != told {
			t.Fatal("the same was not answered twice")
		}
		kept := fmt.Sprint(table, made)
		other, otherMade, _ := ask()
		for _, row := range other {
			for i := range row {
				f := row[i]
				row[i] = slices.Clone(f)
				now := fmt.Sprint(other)
				spoil(f)
				if fmt.Sprint(other) != now {
					t.Fatal("two forms share memory")
				}
			}
		}
		spoil(otherMade)
		if whole(l) != was || fmt.Sprint(form[:cap(form)]) != wasForm {
			t.Fatal("what was handed in was changed")
		}
		for _, s := range l.Stems {
			spoil(s.Form)
		}
		if fmt.Sprint(table, made) != kept {
			t.Fatal("what was handed in is kept in an answer")
		}
	}
}

func TestRowsOfATableShareNothing(t *testing.T) { // P2
	l := example()
	table, _ := Table(l)
	was := fmt.Sprint(table[1], table[2])
	_ = append(table[0][:0], slices.Repeat([][]int{{9}}, cap(table[0]))...)
	if fmt.Sprint(table[1], table[2]) != was {
		t.Error("two rows share memory")
	}
}
