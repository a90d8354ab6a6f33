package speech

import (
	"slices"
	"testing"

	"wordhoard/api"
)

// slowSays tells the first choice, of all of them in their order.
func slowSays(k known, words [][]api.Part, goal api.Part) []int {
	choices := [][]int{nil}
	for _, word := range words {
		var next [][]int
		for _, choice := range choices {
			for i := range word {
				next = append(next, append(slices.Clone(choice), i))
			}
		}
		choices = next
	}
	for _, choice := range choices {
		var left []api.Part
		for i, n := range choice {
			left = append(left, words[i][n])
		}
		if k.proves(left, goal) {
			return choice
		}
	}
	return nil
}

// I4: against all choices.
func TestSays(t *testing.T) {
	d := draw(1)
	k := known{}
	yes, no, later := 0, 0, 0
	for range 8000 {
		words := make([][]api.Part, 1+d.n(4))
		for i := range words {
			for range 1 + d.n(maxChoice) {
				words[i] = append(words[i], d.part([]int{0, 0, 1, 1, 2}[d.n(5)], 2))
			}
		}
		goal := d.part(d.n(2), 2)
		want := slowSays(k, words, goal)
		choice, ok, e := Says(words, goal)
		if slashesOf(slices.Concat(words...), goal) > api.MaxSlashes {
			if choice != nil || ok || e != api.ErrLong {
				t.Fatalf("%v: %v %v %d", words, choice, ok, e)
			}
			continue
		}
		if e != api.OK || ok != (want != nil) || !slices.Equal(choice, want) {
			t.Fatalf("%v: %v %v %d, not %v", words, choice, ok, e, want)
		}
		switch {
		case !ok:
			no++
		case slices.Max(choice) > 0:
			later++
		default:
			yes++
		}
	}
	if yes < 200 || no < 200 || later < 200 {
		t.Errorf("only %d, %d and %d", yes, no, later)
	}
}

// I4: the first choice, as lists are compared: the first word counts most.
func TestSaysTheFirst(t *testing.T) {
	for _, c := range []struct {
		words [][]api.Part
		goal  string
		want  []int
	}{
		{[][]api.Part{parts("(b/a)", "a"), parts("a", "(a\\b)")}, "b", []int{0, 0}},
		{[][]api.Part{parts("a", "(b/a)"), parts("a", "(a\\b)")}, "b", []int{0, 1}},
		{[][]api.Part{parts("c", "(b/a)", "a"), parts("(a\\b)", "c", "a")}, "b", []int{1, 2}},
		{[][]api.Part{parts("a", "a", "a")}, "a", []int{0}},
		{[][]api.Part{parts("b", "c", "a")}, "a", []int{2}},
		{[][]api.Part{parts("b", "c")}, "a", nil},
		{[][]api.Part{parts("b"), parts("a")}, "a", nil},
		{[][]api.Part{parts("a", "b", "(a/a)"), parts("b", "(a/a)"), parts("b", "(a/a)"), parts("b", "(a/a)"), parts("b", "(a/a)"), parts("b", "c", "a")}, "a", []int{2, 1, 1, 1, 1, 2}},
	} {
		choice, ok, e := Says(c.words, part(c.goal))
		if !slices.Equal(choice, c.want) || ok != (c.want != nil) || e != api.OK {
			t.Errorf("%v: %v %v %d, not %v", c.words, choice, ok, e, c.want)
		}
	}
}

// I4, P1: the errors, and which one comes first.
func TestSaysErrors(t *testing.T) {
	none, far, full := api.Part{}, base(letters), api.Part{Kind: api.PartBase, Kids: parts("a")}
	one := parts("a")
	for _, c := range []struct {
		name  string
		words [][]api.Part
		goal  api.Part
		e     api.Errno
	}{
		{"no words", nil, base(0), api.ErrMany},
		{"no words, and no goal", nil, none, api.ErrMany},
		{"a word too many", slices.Repeat([][]api.Part{one}, api.MaxRow+1), base(0), api.ErrMany},
		{"very many words", make([][]api.Part, 1<<20), none, api.ErrMany},
		{"a word without parts", [][]api.Part{one, {}}, base(0), api.ErrMany},
		{"a word without parts, behind a wrong one", [][]api.Part{{none}, nil}, far, api.ErrMany},
		{"a word with a part too many", [][]api.Part{{far}, make([]api.Part, maxChoice+1)}, none, api.ErrMany},
		{"as many words and parts as may be", slices.Repeat([][]api.Part{parts("b", "b", "b")}, api.MaxRow), base(0), api.OK},
		{"the first word ahead of the second", [][]api.Part{{base(0), far}, {none}}, full, api.ErrRange},
		{"the first part of a word ahead of the second", [][]api.Part{one, {full, none}}, far, api.ErrForm},
		{"a word ahead of the goal", [][]api.Part{one, {base(1), base(2), none}}, far, api.ErrKind},
		{"the goal", [][]api.Part{one}, far, api.ErrRange},
		{"an endless part", [][]api.Part{one, {endless()}}, none, api.ErrMany},
		{"slashes too many of all parts, though one choice has few", [][]api.Part{{base(0), deep(6), deep(5)}}, base(0), api.ErrLong},
		{"slashes too many with the goal", [][]api.Part{{base(0), deep(6)}, {deep(1)}}, deep(4), api.ErrLong},
		{"slashes too many, but a wrong goal", [][]api.Part{{deep(7), deep(7)}}, far, api.ErrRange},
		{"as many slashes as may be", [][]api.Part{{base(0), deep(6)}, {deep(1)}}, deep(3), api.OK},
	} {
		choice, ok, e := Says(c.words, c.goal)
		if choice != nil || ok || e != c.e {
			t.Errorf("%s: %v %v %d, not %d", c.name, choice, ok, e, c.e)
		}
	}
	for _, w := range wrong() {
		if choice, ok, e := Says([][]api.Part{one, {base(0), w.p}}, base(0)); choice != nil || ok || e != w.e {
			t.Errorf("%s: %v %v %d, not %d", w.name, choice, ok, e, w.e)
		}
		if choice, ok, e := Says([][]api.Part{one}, w.p); choice != nil || ok || e != w.e {
			t.Errorf("%s: %v %v %d, not %d", w.name, choice, ok, e, w.e)
		}
	}
}
