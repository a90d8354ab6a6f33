package speech

import (
	"math"
	"strings"
	"testing"

	"wordhoard/api"
)

// wrong parts, and what is wrong with them.
func wrong() []struct {
	name string
	p    api.Part
	e    api.Errno
} {
	a, none, far := base(0), api.Part{}, base(letters)
	full := api.Part{Kind: api.PartBase, Kids: []api.Part{a}}
	wide := api.Part{Kind: api.PartBase, Kids: make([]api.Part, 1<<20)}
	named := over(a, a)
	named.N = 1
	deepNone := deep(api.MaxPart/2 + 1)
	deepNone.Kids[1] = none
	return []struct {
		name string
		p    api.Part
		e    api.Errno
	}{
		{"nothing", none, api.ErrKind},
		{"a kind below", api.Part{Kind: -1}, api.ErrKind},
		{"a kind above", api.Part{Kind: api.PartUnder + 1, Kids: []api.Part{a, a}}, api.ErrKind},
		{"the least kind there is", api.Part{Kind: math.MinInt}, api.ErrKind},
		{"no kind ahead of all else", api.Part{N: 99, Kids: []api.Part{a}}, api.ErrKind},
		{"no kind, ahead of its kids", api.Part{Kids: []api.Part{far, full}}, api.ErrKind},
		{"a base one with a kid", full, api.ErrForm},
		{"a base one with a kid, ahead of its number", api.Part{Kind: api.PartBase, N: 99, Kids: []api.Part{none}}, api.ErrForm},
		{"an Over without kids", api.Part{Kind: api.PartOver, N: 7}, api.ErrForm},
		{"an Over with a kid", api.Part{Kind: api.PartOver, Kids: []api.Part{none}}, api.ErrForm},
		{"an Under with three kids", api.Part{Kind: api.PartUnder, N: 7, Kids: []api.Part{a, none, a}}, api.ErrForm},
		{"a letter too far", far, api.ErrRange},
		{"a letter below", base(-1), api.ErrRange},
		{"the greatest letter there is", base(math.MaxInt), api.ErrRange},
		{"the least letter there is", base(math.MinInt), api.ErrRange},
		{"an Over with a number", named, api.ErrRange},
		{"an Under with a number, ahead of its kids", api.Part{Kind: api.PartUnder, N: -1, Kids: []api.Part{none, full}}, api.ErrRange},
		{"none as the first kid", over(none, full), api.ErrKind},
		{"none as the second kid", under(a, none), api.ErrKind},
		{"a full one as the first kid, ahead of the second", over(full, none), api.ErrForm},
		{"a far one as the first kid, ahead of the second", under(far, none), api.ErrRange},
		{"a far one in the first kid, ahead of the second", over(under(a, far), full), api.ErrRange},
		{"too many", deep(api.MaxPart/2 + 1), api.ErrMany},
		{"too many, ahead of all else", deepNone, api.ErrMany},
		{"too many in a base one", wide, api.ErrMany},
		{"too many in nothing", api.Part{Kids: make([]api.Part, api.MaxPart)}, api.ErrMany},
		{"just as many as may be, in nothing", api.Part{Kids: make([]api.Part, api.MaxPart-1)}, api.ErrKind},
		{"just as many as may be, in an Over", api.Part{Kind: api.PartOver, Kids: make([]api.Part, api.MaxPart-1)}, api.ErrForm},
		{"without end", endless(), api.ErrMany},
		{"very deep", deep(1 << 15), api.ErrMany},
	}
}

// I1, P1
func TestCheck(t *testing.T) {
	for _, w := range wrong() {
		if e := Check(w.p); e != w.e {
			t.Errorf("%s: %d, not %d", w.name, e, w.e)
		}
		if s, e := Print(w.p); s != "" || e != w.e {
			t.Errorf("%s: %q %d, not %d", w.name, s, e, w.e)
		}
	}
	for _, p := range []api.Part{base(0), base(letters - 1), deep(api.MaxPart / 2), {Kind: api.PartBase, Kids: []api.Part{}}, over(under(base(1), base(2)), over(base(3), base(9)))} {
		if e := Check(p); e != api.OK {
			t.Errorf("%v: %d", p, e)
		}
	}
}

// I1: each part is read as it is told.
func TestPrintAndRead(t *testing.T) {
	d := draw(1)
	for range 5000 {
		p := d.part(d.n(api.MaxPart/2+1), letters)
		s, e := Print(p)
		if s != slow(p) || e != api.OK {
			t.Fatalf("%v: %q %d", p, s, e)
		}
		back, e := Read(s)
		if e != api.OK || slow(back) != s || Check(back) != api.OK {
			t.Fatalf("%q: %v %d", s, back, e)
		}
	}
}

// I1: how it is written.
func TestPrint(t *testing.T) {
	a, b := base(0), base(1)
	for _, c := range []struct {
		p    api.Part
		want string
	}{
		{a, "a"}, {base(9), "j"}, {over(a, b), "(a/b)"}, {under(a, b), `(a\b)`}, {over(under(a, b), a), `((a\b)/a)`}, {under(over(b, a), over(a, b)), `((b/a)\(a/b))`},
	} {
		if s, e := Print(c.p); s != c.want || e != api.OK {
			t.Errorf("%q %d, not %q", s, e, c.want)
		}
	}
}

// slowWritten tells whether a text is one of a part.
func slowWritten(s string) bool {
	if len(s) == 1 {
		return strings.Contains("abcdefghij", s)
	}
	if len(s) < 5 || s[0] != '(' || s[len(s)-1] != ')' {
		return false
	}
	for i := range s {
		if (s[i] == '/' || s[i] == '\\') && slowWritten(s[1:i]) && slowWritten(s[i+1:len(s)-1]) {
			return true
		}
	}
	return false
}

func checkRead(t *testing.T, s string) bool {
	t.Helper()
	want := api.OK
	if !slowWritten(s) {
		want = api.ErrForm
	} else if strings.Count(s, "(")*2+1 > api.MaxPart {
		want = api.ErrMany
	}
	p, e := Read(s)
	if e != want || e == api.OK && slow(p) != s || e != api.OK && !isNoPart(p) {
		t.Fatalf("%q: %v %d, not %d", s, p, e, want)
	}
	return e == api.OK
}

// I1: all short texts, and longer ones with a byte changed, dropped or put in.
func TestReadOfAllTexts(t *testing.T) {
	const signs = "aj(/\\)k"
	texts := []string{""}
	for range 6 {
		var next []string
		for _, s := range texts {
			checkRead(t, s)
			for i := range signs {
				next = append(next, s+signs[i:i+1])
			}
		}
		texts = next
	}
	d := draw(2)
	read := 0
	for range 30000 {
		s := slow(d.part(d.n(api.MaxPart/2+3), letters))
		at, put := d.n(len(s)), d.n(len(signs))
		switch d.n(3) {
		case 0:
			s = s[:at] + s[at+1:]
		case 1:
			s = s[:at] + signs[put:put+1] + s[at+1:]
		case 2:
			s = s[:at] + signs[put:put+1] + s[at:]
		}
		if checkRead(t, s) {
			read++
		}
	}
	if read < 1000 {
		t.Errorf("only %d were read", read)
	}
}

// I1, P1: wrong texts, too long ones, and such as are both.
func TestReadErrors(t *testing.T) {
	written := func(slashes int) string {
		return strings.Repeat("(", slashes) + "a" + strings.Repeat("/b)", slashes)
	}
	other := func(slashes int) string {
		return strings.Repeat("(a\\", slashes) + "b" + strings.Repeat(")", slashes)
	}
	const most = api.MaxPart / 2
	for _, c := range []struct {
		s string
		e api.Errno
	}{
		{"", api.ErrForm}, {"A", api.ErrForm}, {"k", api.ErrForm}, {"`", api.ErrForm}, {" a", api.ErrForm}, {"a ", api.ErrForm}, {"aa", api.ErrForm},
		{"(a)", api.ErrForm}, {"()", api.ErrForm}, {"(", api.ErrForm}, {")", api.ErrForm}, {"/", api.ErrForm}, {"(/)", api.ErrForm}, {"a/b", api.ErrForm}, {"(a/b", api.ErrForm}, {"a/b)", api.ErrForm}, {"(a/b))", api.ErrForm},
		{"(a/b/c)", api.ErrForm}, {"(a b)", api.ErrForm}, {"(a|b)", api.ErrForm}, {"(a/b)c", api.ErrForm}, {"((a/b)/)", api.ErrForm}, {"(a//b)", api.ErrForm}, {"((a/b))", api.ErrForm}, {"(a/b)/c", api.ErrForm},
		{"\u0251", api.ErrForm}, {"a\x00", api.ErrForm}, {"\xff", api.ErrForm}, {"(\u00e1/b)", api.ErrForm},
		{written(most), api.OK}, {other(most), api.OK},
		{written(most + 1), api.ErrMany}, {other(most + 1), api.ErrMany},
		{written(most+1) + ")", api.ErrForm}, {"(" + other(most+1), api.ErrForm}, {written(most + 1)[1:], api.ErrForm},
		{written(1 << 20), api.ErrMany}, {other(1 << 20), api.ErrMany}, {written(1<<20) + "a", api.ErrForm},
		{strings.Repeat("(", 1<<22), api.ErrForm}, {strings.Repeat(")", 1<<22), api.ErrForm}, {strings.Repeat("a", 1<<22), api.ErrForm},
	} {
		p, e := Read(c.s)
		if e != c.e || e != api.OK && !isNoPart(p) {
			t.Errorf("%.40q: %v %d, not %d", c.s, p, e, c.e)
		}
	}
}
