package reader

import (
	"fmt"
	"math"
	"reflect"
	"slices"
	"strings"
	"testing"

	"wordhoard/api"
	"wordhoard/grammar"
)

// numbered are so many words, no two of which are the same.
func numbered(n int) []string {
	var l []string
	for i := range n {
		l = append(l, strings.Repeat("a", i%9+1)+strings.Repeat("b", i/9))
	}
	return l
}

// books, and what is wrong with them: each has what comes later in the order of the document wrong too, where it can.
func books() []struct {
	name string
	b    api.Book
	e    api.Errno
} {
	wrong := api.Grammar{Kinds: -1}
	long := strings.Repeat("a", api.MaxLetters+1)
	type book = struct {
		name string
		b    api.Book
		e    api.Errno
	}
	l := []book{
		{"no words", api.Book{Grammar: sums()}, api.ErrMany},
		{"no words, and a wrong grammar", api.Book{Words: []string{}, Grammar: api.Grammar{Kinds: 1, Rules: []api.Rule{{}}}}, api.ErrMany},
		{"a word too many", api.Book{Words: append(numbered(api.MaxWord-2), long, "A", "A"), Grammar: wrong}, api.ErrMany},
		{"far too many", api.Book{Words: make([]string, 1<<20)}, api.ErrMany},
		{"right words, one too many", api.Book{Words: numbered(api.MaxWord + 1), Grammar: sums()}, api.ErrMany},
		{"the most", api.Book{Words: numbered(api.MaxWord), Grammar: sums()}, api.OK},
		{"one", api.Book{Words: []string{"a"}, Grammar: sums()}, api.OK},
		{"too long behind what is wrong", api.Book{Words: []string{"A", "", "a", "a", long}, Grammar: wrong}, api.ErrLong},
		{"strays, too long", api.Book{Words: []string{strings.Repeat("\xff", api.MaxLetters+1)}, Grammar: sums()}, api.ErrLong},
		{"strays", api.Book{Words: []string{strings.Repeat("\xff", api.MaxLetters)}, Grammar: sums()}, api.ErrForm},
		{"letters of four bytes, too long", api.Book{Words: []string{strings.Repeat("\U0001f600", api.MaxLetters+1)}, Grammar: sums()}, api.ErrLong},
		{"letters of four bytes, the most", api.Book{Words: []string{strings.Repeat("\U0001f600", api.MaxLetters)}, Grammar: sums()}, api.OK},
		{"the most letters", api.Book{Words: []string{strings.Repeat("a", api.MaxLetters)}, Grammar: sums()}, api.OK},
		{"as long as anything", api.Book{Words: []string{"a", strings.Repeat("\xff", 1<<26)}, Grammar: sums()}, api.ErrLong},
		{"twice, and no form behind", api.Book{Words: []string{"a", "a", "B"}, Grammar: wrong}, api.ErrForm},
		{"twice", api.Book{Words: []string{"a", "b", "a"}, Grammar: wrong}, api.ErrTwice},
		{"twice, side by side", api.Book{Words: []string{"b", "a", "a"}, Grammar: sums()}, api.ErrTwice},
		{"no kinds", api.Book{Words: []string{"a"}}, api.ErrMany},
		{"an empty body", api.Book{Words: []string{"a"}, Grammar: api.Grammar{Kinds: 1, Rules: []api.Rule{{}}}}, api.ErrForm},
		{"a long body", api.Book{Words: []string{"a"}, Grammar: api.Grammar{Kinds: 1, Rules: []api.Rule{{Body: make([]int, api.MaxBody+1)}}}}, api.ErrLong},
		{"no such part", api.Book{Words: []string{"a"}, Grammar: api.Grammar{Kinds: 1, Rules: []api.Rule{{Body: []int{1}}}}}, api.ErrRange},
		{"words of a grammar that the book has not", api.Book{Words: []string{"a"}, Grammar: api.Grammar{Kinds: 1, Rules: []api.Rule{{Body: []int{-30}}}}}, api.OK},
		{"no rules", api.Book{Words: []string{"a"}, Grammar: api.Grammar{Kinds: 1}}, api.OK},
	}
	for _, word := range []string{"", " ", "a b", "a ", " a", "a1", "1", "12", "A", "aB", "\u00c9", "\u0391", "\u0416", "\u0401", "\xff", "a\xff", "a-b", "'", "a\u00d7", "\u00f7", "a\u00f7b", "\u00aa", "\xc3", "a\n", "\x00"} {
		l = append(l, book{"no form: " + word, api.Book{Words: []string{"a", word, "b"}, Grammar: wrong}, api.ErrForm})
	}
	for _, word := range []string{"z", "\u00e9", "\u00df", "\u00ff", "\u03b1", "\u0436", "\u03a2", "\ufffd", "\u0100", "\U0010ffff", "\u4e00\u4e8c"} {
		l = append(l, book{"a form: " + word, api.Book{Words: []string{"a", word, "b"}, Grammar: sums()}, api.OK})
	}
	return l
}

// Q1, P1: what Check says, all others say first.
func TestCheck(t *testing.T) {
	for _, c := range books() {
		if e := Check(c.b); e != c.e {
			t.Errorf("%s: %d, not %d", c.name, e, c.e)
		}
		if c.e == api.OK {
			continue
		}
		if s, e := Say(c.b, make([]int, api.MaxText+1)); s != "" || e != c.e {
			t.Errorf("%s: Say %q %d", c.name, s, e)
		}
		if l, e := Hear(c.b, strings.Repeat("1", api.MaxSaid+1)); len(l) > 0 || e != c.e {
			t.Errorf("%s: Hear %v %d", c.name, l, e)
		}
		if tree, ok, e := Read(c.b, strings.Repeat("1", api.MaxSaid+1)); !isZero(tree) || ok || e != c.e {
			t.Errorf("%s: Read %v %v %d", c.name, tree, ok, e)
		}
	}
}

func birds() api.Book {
	return api.Book{
		Words:   []string{"birds", "sing", "\u00e9t\u00e9", "sung", "ring"},
		Grammar: api.Grammar{Kinds: 2, Rules: []api.Rule{{Body: []int{1, -2}}, {Head: 1, Body: []int{-1}}, {Head: 1, Body: []int{1, -3}}}},
	}
}

// Q2
func TestSay(t *testing.T) {
	all := slices.Repeat([]int{1}, api.MaxText)
	for _, c := range []struct {
		name  string
		words []int
		want  string
		e     api.Errno
	}{
		{"none", nil, "", api.OK},
		{"one", []int{3}, "\u00e9t\u00e9", api.OK},
		{"two", []int{1, 2}, "birds sing", api.OK},
		{"without a tree", []int{5, 5, 1}, "ring ring birds", api.OK},
		{"the most", all, strings.Repeat("birds ", api.MaxText-1) + "birds", api.OK},
		{"one too many", append(slices.Clone(all), 1), "", api.ErrLong},
		{"one too many, wrong", append(slices.Clone(all), 0), "", api.ErrLong},
		{"far too many", make([]int, 1<<20), "", api.ErrLong},
		{"word 0", []int{1, 0}, "", api.ErrNone},
		{"one above the last", []int{6, 1}, "", api.ErrNone},
		{"below 0", []int{-1}, "", api.ErrNone},
		{"the least", []int{math.MinInt}, "", api.ErrNone},
		{"the greatest", []int{1, math.MaxInt}, "", api.ErrNone},
	} {
		if s, e := Say(birds(), c.words); s != c.want || e != c.e {
			t.Errorf("%s: %q %d", c.name, s, e)
		}
	}
}

// Q2, Q3
func TestHearAndRead(t *testing.T) {
	words := func(n int, word string) string { return strings.Repeat(word+" ", n) }
	long := func(n int) string { return strings.Repeat("a", n) }
	for _, c := range []struct {
		name, text string
		want       []int
		tree       bool
		e          api.Errno
	}{
		{"nothing", "", nil, false, api.OK},
		{"blanks and signs", " \t\n.,-\u00d7\u00f7\x00", nil, false, api.OK},
		{"the document's example", "Brds  sing!", []int{1, 2}, true, api.OK},
		{"in great letters", "BIRDS \u00c9T\u00c9\nSING", []int{1, 3, 2}, true, api.OK},
		{"the nearest, not the first", "ring sung sing", []int{5, 4, 2}, false, api.OK},
		{"of those as near the first", "ting SANG bing", []int{2, 2, 2}, false, api.OK},
		{"near the second alone", "rung rong", []int{4, 5}, false, api.OK},
		{"a letter turned, put and dropped", "girds ssing \u00c9T", []int{1, 2, 3}, false, api.OK},
		{"two apart", "birds sxxg", nil, false, api.ErrName},
		{"signs part words", "bir-ds", nil, false, api.ErrName},
		{"signs stand between words", "(birds)sing", []int{1, 2}, true, api.OK},
		{"a number", "birds 7 xxxxx", nil, false, api.ErrForm},
		{"a number in a word", "birds sing2", nil, false, api.ErrForm},
		{"a stray", "birds \xff", nil, false, api.ErrForm},
		{"half a letter", "\u00e9t\xc3", nil, false, api.ErrForm},
		{"a name ahead of a stray", "xxxxx \xff 7", nil, false, api.ErrName},
		{"a stray ahead of a name", "\xffxxxxx", nil, false, api.ErrForm},
		{"the most words", words(16, "birds"), slices.Repeat([]int{1}, 16), false, api.OK},
		{"a word too many", words(17, "birds"), nil, false, api.ErrLong},
		{"a word too many, behind what is wrong", "7 \xff xxxxx " + words(17, "q"), nil, false, api.ErrLong},
		{"the longest word", long(21), nil, false, api.ErrName},
		{"a word too long", "birds 7 " + long(22), nil, false, api.ErrLong},
		{"a word too long, in four bytes", strings.Repeat("\U0001f600", 22), nil, false, api.ErrLong},
		{"the longest word, in four bytes", strings.Repeat("\U0001f600", 21), nil, false, api.ErrName},
		{"the most bytes", "birds sing" + strings.Repeat(" ", api.MaxSaid-10), []int{1, 2}, true, api.OK},
		{"a byte too many", "birds sing" + strings.Repeat(" ", api.MaxSaid-9), nil, false, api.ErrLong},
		{"a byte too many, all wrong", strings.Repeat("\xff", api.MaxSaid+1), nil, false, api.ErrLong},
		{"the most bytes, all wrong", strings.Repeat("\xff", api.MaxSaid), nil, false, api.ErrForm},
		{"the most bytes, a number", strings.Repeat("7", api.MaxSaid), nil, false, api.ErrForm},
		{"as long as anything", strings.Repeat("a", 1<<26), nil, false, api.ErrLong},
	} {
		l, e := Hear(birds(), c.text)
		if !slices.Equal(l, c.want) || e != c.e || e != api.OK && len(l) > 0 {
			t.Errorf("%s: Hear %v %d", c.name, l, e)
		}
		tree, ok, e := Read(birds(), c.text)
		if ok != c.tree || e != c.e || !ok && !isZero(tree) {
			t.Errorf("%s: Read %v %v %d", c.name, tree, ok, e)
		}
		if !ok {
			continue
		}
		if said, e := grammar.Yield(birds().Grammar, tree); !slices.Equal(said, c.want) || e != api.OK {
			t.Errorf("%s: Read %v, of %v %d", c.name, tree, said, e)
		}
	}
}

// Q2: words of as many letters as may be are heard with one more, too.
func TestHearOfLongWords(t *testing.T) {
	word := strings.Repeat("\U0001f600", api.MaxLetters)
	b := api.Book{Words: []string{"a", word}, Grammar: sums()}
	for _, text := range []string{word, word + "a", "A" + word} {
		if l, e := Hear(b, text); !slices.Equal(l, []int{2}) || e != api.OK {
			t.Errorf("%d letters: %v %d", len(slowUnits(text)), l, e)
		}
	}
	if l, e := Hear(b, word+"ab"); len(l) > 0 || e != api.ErrLong {
		t.Errorf("two more: %v %d", l, e)
	}
}

// Q2, Q3: texts of all kinds of pieces, against what is heard unit by unit.
func TestHearAgainstSlow(t *testing.T) {
	d := draw(1)
	seen := map[api.Errno]int{}
	trees := 0
	for range 4000 {
		b := d.book(1+d.n(8), 1+d.n(4), 1)
		var text strings.Builder
		for range d.n(19) {
			switch d.n(40) {
			case 0:
				text.WriteString(d.pick("\xff", "\xc3", "7", "10"))
			case 1:
				text.WriteString(strings.Repeat(d.pick(small()...), 20+d.n(3)))
			case 2, 3, 4, 5:
				text.WriteString(d.word(1 + d.n(4)))
			default:
				word := d.pick(b.Words...)
				text.WriteString(d.grown(d.pick(append(edits(word, small()), word, word)...)))
			}
			text.WriteString(d.pick(" ", "  ", "\n\t", ", ", "-", ".", "\u00d7"))
		}
		l, e := Hear(b, text.String())
		want, f := slowHear(b, text.String())
		if !slices.Equal(l, want) || e != f {
			t.Fatalf("%q of %q: %v %d, not %v %d", text.String(), b.Words, l, e, want, f)
		}
		seen[e]++
		tree, ok, g := Read(b, text.String())
		other, there, h := api.Tree{}, false, e
		if e == api.OK {
			other, there, h = grammar.Parse(b.Grammar, want)
		}
		if ok != there || g != h || !reflect.DeepEqual(tree, other) {
			t.Fatalf("%q of %q: %v %v %d", text.String(), b.Words, tree, ok, g)
		}
		if ok {
			trees++
		}
	}
	for _, e := range []api.Errno{api.OK, api.ErrLong, api.ErrForm, api.ErrName} {
		if seen[e] < 100 {
			t.Errorf("%d was seen only %d times", e, seen[e])
		}
	}
	if trees < 100 {
		t.Errorf("only %d trees", trees)
	}
}

// Q4: all edits of each word of books whose words are three apart.
func TestOneEditInAWordDoesNoHarm(t *testing.T) {
	d := draw(2)
	for range 4 {
		b := d.book(api.MaxWord/2+d.n(api.MaxWord/2+1), 9, 3)
		if e := Check(b); e != api.OK {
			t.Fatalf("%q: %d", b.Words, e)
		}
		for i, word := range b.Words {
			for _, text := range append(edits(word, slices.Concat(small(), great(), []string{"q", "\u00df", "\ufffd"})), word) {
				for _, written := range []string{text, d.grown(text)} {
					if l, e := Hear(b, written); !slices.Equal(l, []int{i + 1}) || e != api.OK {
						t.Fatalf("%q for %q of %q: %v %d", written, word, b.Words, l, e)
					}
				}
			}
		}
	}
}

// Q4: whole texts, said, misspelt in each word, heard and read.
func TestWhatIsSaidIsHeardAndRead(t *testing.T) {
	d := draw(3)
	read := 0
	for range 600 {
		b := d.book(3+d.n(9), 9, 3)
		words := make([]int, d.n(api.MaxText+1))
		for i := range words {
			words[i] = 1 + d.n(len(b.Words))
			if d.n(2) == 0 {
				words[i] = []int{1, 2}[i%2]
			}
		}
		said, e := Say(b, words)
		if e != api.OK {
			t.Fatalf("%v of %q: %d", words, b.Words, e)
		}
		parts := strings.Fields(said)
		if len(parts) != len(words) {
			t.Fatalf("%v of %q: %q", words, b.Words, said)
		}
		for i, part := range parts {
			parts[i] = d.grown(d.pick(append(edits(part, great()), part)...))
		}
		for _, text := range []string{said, d.grown(said), strings.Join(parts, " "), "..." + strings.Join(parts, ",\n") + "!"} {
			if l, e := Hear(b, text); !slices.Equal(l, words) || e != api.OK {
				t.Fatalf("%q of %q: %v %d, not %v", text, b.Words, l, e, words)
			}
			tree, ok, e := Read(b, text)
			has, f := grammar.Has(b.Grammar, words)
			if ok != has || e != api.OK || f != api.OK {
				t.Fatalf("%q of %q: %v %d", text, b.Words, ok, e)
			}
			if !ok {
				continue
			}
			read++
			back, e := grammar.Yield(b.Grammar, tree)
			if !slices.Equal(back, words) || e != api.OK {
				t.Fatalf("%q of %q: %v is read, of %v", text, b.Words, back, words)
			}
			if again, e := Say(b, back); again != said || e != api.OK {
				t.Fatalf("%q of %q: %q is read", text, b.Words, again)
			}
		}
	}
	if read < 100 {
		t.Errorf("only %d were read", read)
	}
}

// P2, P3: what is handed in is only read, and not kept, and the answers are new, and the same each time.
func TestMemory(t *testing.T) {
	d := draw(4)
	for range 300 {
		b := d.book(3+d.n(5), 5, 1)
		words := []int{1, 2, 1 + d.n(len(b.Words)), 77, 77}
		text, _ := Say(b, []int{1, 2, 1, 2, 1})
		all := append(slices.Clone(b.Words), "behind", "behind")
		b.Words = all[:len(b.Words)]
		b.Grammar.Rules = append(b.Grammar.Rules, api.Rule{Head: 77})[:len(b.Grammar.Rules)]
		whole := func() string {
			return fmt.Sprint(all, words, b.Grammar.Kinds, b.Grammar.Rules[:len(b.Grammar.Rules)+1])
		}
		was := whole()
		ask := func() (string, []int, api.Tree) {
			s, e := Say(b, words[:3])
			l, f := Hear(b, text)
			tree, ok, g := Read(b, text)
			return fmt.Sprint(Check(b), s, e, l, f, tree, ok, g), l, tree
		}
		first, l, tree := ask()
		if whole() != was {
			t.Fatal("what was handed in was changed")
		}
		said, list, read := fmt.Sprint(first), fmt.Sprint(l), fmt.Sprint(tree)
		_, other, otherTree := ask()
		clear(other[:cap(other)])
		clear(otherTree.Kids[:cap(otherTree.Kids)])
		if again, _, _ := ask(); again != first {
			t.Fatalf("it says\n%s\nthen\n%s", first, again)
		}
		clear(all)
		clear(words)
		clear(b.Grammar.Rules)
		if first != said || fmt.Sprint(l) != list || fmt.Sprint(tree) != read {
			t.Fatal("what was handed in is kept in an answer")
		}
	}
}
