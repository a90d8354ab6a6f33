package sound

import (
	"math"
	"slices"
	"testing"

	"wordhoard/api"
)

// A change, and what Check tells of it.
type verdict struct {
	name string
	c    api.Change
	want api.Errno
}

func of(any ...int) api.Spot { return api.Spot{Any: any} }

func verdicts() []verdict {
	edge := api.Spot{Edge: true}
	one := func(kinds int) api.Change { return api.Change{Kinds: kinds, From: []int{1}} }
	with := func(f func(*api.Change)) api.Change {
		c := one(2)
		f(&c)
		return c
	}
	left := func(l ...api.Spot) api.Change { return with(func(c *api.Change) { c.Left = l }) }
	right := func(l ...api.Spot) api.Change { return with(func(c *api.Change) { c.Right = l }) }
	from := func(l ...int) api.Change { return with(func(c *api.Change) { c.From = l }) }
	to := func(l ...int) api.Change { return with(func(c *api.Change) { c.To = l }) }
	return []verdict{
		{"least", one(1), api.OK},
		{"most kinds", one(4), api.OK},
		{"most of all", api.Change{Kinds: 4, From: []int{4, 4}, To: []int{4, 1}, Left: []api.Spot{{Any: []int{1, 2, 3, 4}, Edge: true}, of(4, 4, 4, 4)}, Right: []api.Spot{{Any: []int{4, 3, 2, 1}, Edge: true}}}, api.OK},
		{"spots of nothing", api.Change{Kinds: 1, From: []int{1}, Left: []api.Spot{{}, {}}, Right: []api.Spot{{}}}, api.OK},
		{"nothing", api.Change{}, api.ErrMany},
		{"kinds below", one(-1), api.ErrMany},
		{"more kinds", one(5), api.ErrMany},
		{"no end of kinds", one(math.MaxInt), api.ErrMany},
		{"many ahead of long", api.Change{Kinds: 5, From: ones(3)}, api.ErrMany},
		{"from nothing", from(), api.ErrLong},
		{"from three", from(1, 1, 1), api.ErrLong},
		{"to three", to(1, 1, 1), api.ErrLong},
		{"three spots on the left", left(of(1), of(1), of(1)), api.ErrLong},
		{"two spots on the right", right(of(1), of(1)), api.ErrLong},
		{"five symbols on the left", left(of(1), of(1, 1, 1, 1, 1)), api.ErrLong},
		{"five symbols on the right", right(of(1, 1, 1, 1, 1)), api.ErrLong},
		{"long ahead of range", with(func(c *api.Change) { c.From, c.Right = []int{9}, []api.Spot{of(ones(5)...)} }), api.ErrLong},
		{"long ahead of form", left(edge, edge, edge), api.ErrLong},
		{"from above", from(1, 3), api.ErrRange},
		{"from nought", from(0), api.ErrRange},
		{"to above", to(3), api.ErrRange},
		{"to below", to(1, math.MinInt), api.ErrRange},
		{"left above", left(of(1), of(1, 3)), api.ErrRange},
		{"left nought", left(of(0)), api.ErrRange},
		{"right above", right(of(2, 3)), api.ErrRange},
		{"right below", right(of(-1)), api.ErrRange},
		{"range ahead of form", left(of(3), edge), api.ErrRange},
		{"edge within", left(of(1), edge), api.ErrForm},
		{"edge twice", left(edge, api.Spot{Any: []int{1}, Edge: true}), api.ErrForm},
		{"edge on the left", left(edge, of(1)), api.OK},
		{"edge on the right", right(edge), api.OK},
	}
}

func TestCheck(t *testing.T) { // C1, P1
	right := api.Change{Kinds: 2, From: []int{1}}
	for _, v := range verdicts() {
		if e := Check(v.c); e != v.want {
			t.Errorf("%s: Check %d, want %d", v.name, e, v.want)
		}
		if v.want == api.OK {
			continue
		}
		// a wrong text, too: what Check tells goes ahead of it
		if l, e := Apply(v.c, []int{77}); l != nil || e != v.want {
			t.Errorf("%s: Apply %v %d", v.name, l, e)
		}
		if l, e := All([]api.Change{right, v.c}, make([]int, 61)); l != nil || e != v.want {
			t.Errorf("%s: All %v %d", v.name, l, e)
		}
		if m, e := Net(v.c); !isZero(m) || e != v.want {
			t.Errorf("%s: Net %v %d", v.name, m, e)
		}
		if m, e := Nets([]api.Change{right, v.c}); !isZero(m) || e != v.want {
			t.Errorf("%s: Nets %v %d", v.name, m, e)
		}
	}
}

func TestApply(t *testing.T) { // C2
	two := api.Spot{Any: []int{2}}
	twoOrEdge := api.Spot{Any: []int{2}, Edge: true}
	edge := api.Spot{Edge: true}
	for _, x := range []struct {
		name       string
		c          api.Change
		text, want []int
	}{
		{"behind 2 or the edge", api.Change{From: []int{1}, To: []int{2}, Left: []api.Spot{twoOrEdge}}, []int{1, 1, 2, 1}, []int{2, 2, 2, 2}},
		{"what was written counts on the left", api.Change{From: []int{1}, To: []int{2}, Left: []api.Spot{two}}, []int{1, 2, 1, 1, 3, 1}, []int{1, 2, 2, 2, 3, 1}},
		{"what was read does not count on the left", api.Change{From: []int{1}, To: []int{2}, Left: []api.Spot{of(1)}}, []int{1, 1, 1, 1}, []int{1, 2, 1, 2}},
		{"what is to be read counts on the right", api.Change{From: []int{1}, To: []int{2}, Right: []api.Spot{of(1)}}, []int{1, 1, 1, 1}, []int{2, 2, 2, 1}},
		{"ahead of the end", api.Change{From: []int{1}, Right: []api.Spot{edge}}, []int{1, 1, 1}, []int{1, 1}},
		{"ahead of the end alone", api.Change{From: []int{1}, Right: []api.Spot{edge}}, []int{1}, nil},
		{"at the beginning", api.Change{From: []int{1}, Left: []api.Spot{edge}}, []int{1, 1, 2, 1}, []int{2, 1}},
		{"nothing written is still the beginning", api.Change{From: []int{1}, To: nil, Left: []api.Spot{edge}}, []int{1, 1, 1}, nil},
		{"one behind the beginning", api.Change{From: []int{1}, To: []int{3}, Left: []api.Spot{edge, of(1, 2)}}, []int{1, 1, 1}, []int{1, 3, 1}},
		{"two spots need two", api.Change{From: []int{1}, To: []int{3}, Left: []api.Spot{of(1), of(2)}}, []int{1, 2, 1, 2, 1}, []int{1, 2, 3, 2, 1}},
		{"two are read at once", api.Change{From: []int{1, 1}, To: []int{2}}, []int{1, 1, 1, 1, 1}, []int{2, 2, 1}},
		{"what is written is not read again", api.Change{From: []int{1}, To: []int{1, 1}}, []int{1, 2, 1}, []int{1, 1, 2, 1, 1}},
		{"from does not reach over the end", api.Change{From: []int{1, 2}, To: []int{3}, Right: []api.Spot{edge}}, []int{1, 2, 1}, []int{1, 2, 1}},
		{"what stands on the right stays to be read", api.Change{From: []int{1}, To: []int{2}, Right: []api.Spot{of(1)}, Left: []api.Spot{of(2)}}, []int{2, 1, 1, 1}, []int{2, 2, 2, 1}},
		{"a spot of nothing is never matched", api.Change{From: []int{1}, To: []int{2}, Left: []api.Spot{{}}}, []int{1, 1}, []int{1, 1}},
		{"nothing", api.Change{From: []int{1}, To: []int{2}}, nil, nil},
	} {
		x.c.Kinds = 3
		if l, e := Apply(x.c, x.text); e != api.OK || !slices.Equal(l, x.want) {
			t.Errorf("%s: %v %d, want %v", x.name, l, e, x.want)
		}
	}
}

func TestApplyAsTheWordsSay(t *testing.T) { // C2
	d := new(draw)
	for range 3000 {
		kinds := 1 + d.n(4)
		l := d.changes(d.n(4), kinds)
		text := d.text(0, 15, kinds)
		if got, e := All(l, text); e != api.OK || !slices.Equal(got, slowAll(l, text)) {
			t.Fatalf("All %v of %v: %v %d", l, text, got, e)
		}
		c := d.change(kinds)
		text = d.text(0, 60, kinds)
		if got, e := Apply(c, text); e != api.OK || !slices.Equal(got, slowApply(c, text)) {
			t.Fatalf("Apply %v of %v: %v %d", c, text, got, e)
		}
	}
}

func TestWrongTexts(t *testing.T) { // C2, P1
	c := api.Change{Kinds: 2, From: []int{1}, To: []int{2}}
	high := slices.Repeat([]int{3}, 61)
	for _, x := range []struct {
		name string
		text []int
		want api.Errno
	}{
		{"longest", ones(60), api.OK},
		{"longer", ones(61), api.ErrLong},
		{"long ahead of range", high, api.ErrLong},
		{"above", []int{1, 3}, api.ErrRange},
		{"nought", []int{0}, api.ErrRange},
		{"below", []int{2, math.MinInt}, api.ErrRange},
	} {
		l, e := Apply(c, x.text)
		m, f := All([]api.Change{c, c}, x.text)
		if e != x.want || f != x.want || e != api.OK && (l != nil || m != nil) {
			t.Errorf("%s: Apply %v %d, All %v %d", x.name, l, e, m, f)
		}
	}
	for _, x := range []struct {
		text []int
		want api.Errno
	}{
		{nil, api.OK}, {[]int{1, 60}, api.OK}, {[]int{61}, api.ErrRange}, {[]int{0}, api.ErrRange}, {ones(60), api.OK}, {ones(61), api.ErrLong}, {make([]int, 61), api.ErrLong},
	} {
		if l, e := All(nil, x.text); e != x.want || e == api.OK && !slices.Equal(l, x.text) || e != api.OK && l != nil {
			t.Errorf("All of no changes, %v: %v %d", x.text, l, e)
		}
	}
}

func TestAllErrors(t *testing.T) { // C2, C3
	c := api.Change{Kinds: 2, From: []int{1}, To: []int{2}}
	other := api.Change{Kinds: 3, From: []int{1}}
	long := api.Change{Kinds: 2}
	wrong := api.Change{Kinds: 2, From: []int{3}}
	for _, x := range []struct {
		name string
		l    []api.Change
		want api.Errno
	}{
		{"most", []api.Change{c, c, c}, api.OK},
		{"more", []api.Change{c, c, c, c}, api.ErrMany},
		{"many ahead of Check", []api.Change{long, c, c, c}, api.ErrMany},
		{"first of two wrong ones", []api.Change{wrong, long}, api.ErrRange},
		{"first of two wrong ones, turned", []api.Change{long, wrong}, api.ErrLong},
		{"other kinds", []api.Change{c, c, other}, api.ErrMany},
		{"Check ahead of other kinds", []api.Change{c, other, wrong}, api.ErrRange},
	} {
		l, e := All(x.l, []int{1})
		m, f := Nets(x.l)
		if e != x.want || f != x.want || e != api.OK && (l != nil || !isZero(m)) {
			t.Errorf("%s: All %v %d, Nets %v %d", x.name, l, e, m, f)
		}
	}
	if _, e := All([]api.Change{c, other}, ones(61)); e != api.ErrMany {
		t.Errorf("kinds go ahead of the text: %d", e)
	}
	if m, e := Nets(nil); !isZero(m) || e != api.ErrMany {
		t.Errorf("Nets of none: %v %d", m, e)
	}
}

func TestAllLong(t *testing.T) { // C2
	grow := api.Change{Kinds: 2, From: []int{1}, To: []int{1, 1}}
	drop := api.Change{Kinds: 2, From: []int{1}}
	for _, x := range []struct {
		l    []api.Change
		text int
		long int
		want api.Errno
	}{
		{[]api.Change{grow}, 60, 120, api.OK},
		{[]api.Change{grow, grow}, 30, 120, api.OK},
		{[]api.Change{grow, grow}, 31, 0, api.ErrLong},
		{[]api.Change{grow, drop}, 31, 0, api.ErrLong},
		{[]api.Change{grow, grow, grow}, 15, 120, api.OK},
		{[]api.Change{grow, grow, grow}, 16, 0, api.ErrLong},
		{[]api.Change{grow, grow, drop}, 15, 0, api.OK},
		{[]api.Change{drop, grow, grow}, 60, 0, api.OK},
	} {
		if l, e := All(x.l, ones(x.text)); e != x.want || len(l) != x.long {
			t.Errorf("%d changes of %d: %d %d", len(x.l), x.text, len(l), e)
		}
	}
}
