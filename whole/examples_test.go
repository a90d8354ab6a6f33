package whole

import (
	"fmt"
	"slices"
	"testing"

	"wordhoard/api"
	"wordhoard/chance"
	"wordhoard/forms"
	"wordhoard/grammar"
	"wordhoard/heads"
	"wordhoard/learn"
	"wordhoard/letters"
	"wordhoard/machine"
	"wordhoard/pair"
	"wordhoard/prove"
	"wordhoard/reader"
	"wordhoard/sense"
	"wordhoard/sound"
	"wordhoard/speech"
	"wordhoard/spell"
	"wordhoard/talk"
	"wordhoard/term"
)

// The document's examples, by their numbers.
func TestExamples(t *testing.T) {
	for i, c := range []struct{ got, want string }{
		{all(letters.Fold("\u00c9T\xff"), letters.Units("\u00c9T\xff")), all("\u00e9t\xff", []api.Unit{{At: 0, Len: 2, Letter: 201}, {At: 2, Len: 1, Letter: 84}, {At: 3, Len: 1, Letter: -1}})},
		{ofMachine(), "[3 true 0] [[[2]] 0]"},
		{all(sound.Apply(api.Change{Kinds: 2, From: []int{1}, To: []int{2}, Left: []api.Spot{{Any: []int{2}, Edge: true}}}, []int{1, 1, 2, 1})), "[[2 2 2 2] 0]"},
		{ofForms(), "[[1 1] 0] [[{0 0}] 0]"},
		{all(spell.Far("kitten", "sitting")), "[3 0]"},
		{ofGrammar(), "[2 false 0] [[1 2 1 2 1] true 0]"},
		{all(chance.Of(api.Chances{Grammar: api.Grammar{Kinds: 1, Rules: []api.Rule{{Body: []int{-1}}, {Body: []int{-1, 0}}}}, Weights: []int{1, 1}}, []int{1, 1, 1})), "[1/8 0]"},
		{all(heads.Best([][]int{{1, 5}, {0, 9}, {3, 0}})), "[[0 1] 10 0]"},
		{ofSpeech(), "[true 0]"},
		{ofTerm(), "[{2 3 {0 0 []} []} 1 0]"},
		{ofProve(), "true [true 0]"},
		{ofSense(), "[[[0 1]] 0]"},
		{all(pair.Translate(api.Pairing{Kinds: 2, Rules: []api.Pair{{Left: []int{1, 1}, Right: []int{1, 0}}, {Head: 1, Left: []int{-1}, Right: []int{-3}}, {Head: 1, Left: []int{-2}, Right: []int{-4}}}}, []int{1, 2})), "[[[4 3]] 0]"},
		{all(learn.Learn(1, &teacher{t: t, knows: line([]int{1})})), "[{2 [{0 1 1 1 0}] [{1 0}]} 0]"},
		{ofTalk(), "[{1 1 1 x true}]"},
		{all(reader.Hear(api.Book{Words: []string{"birds", "sing"}, Grammar: api.Grammar{Kinds: 1}}, "Brds  sing!")), "[[1 2] 0]"},
	} {
		if c.got != c.want {
			t.Errorf("example %d: %s, not %s", i+1, c.got, c.want)
		}
	}
}

// all tells all that a call answered, as one list.
func all(l ...any) string { return fmt.Sprint(slices.Clone(l)) }

func ofMachine() string {
	m := api.Machine{States: 2, Arcs: []api.Arc{{To: 1, In: 1, Out: 2, W: 3}}, Finals: []api.Final{{State: 1}}}
	return all(machine.Cost(m, []int{1}, []int{2})) + " " + all(machine.Outs(m, []int{1}, 2))
}

func ofForms() string {
	l := api.Lexicon{Kinds: 1, Stems: []api.Stem{{Form: []int{1}}}, Cells: []api.Cell{{Behind: []int{1}}}}
	return all(forms.Make(l, 0, 0)) + " " + all(forms.Read(l, []int{1, 1}))
}

func ofGrammar() string {
	g := api.Grammar{Kinds: 1, Rules: []api.Rule{{Body: []int{0, -2, 0}}, {Body: []int{-1}}}}
	return all(grammar.Count(g, []int{1, 2, 1, 2, 1})) + " " + all(grammar.Twins(g, api.MaxTwins))
}

func ofSpeech() string {
	noun, _ := speech.Read("a")
	verb, _ := speech.Read("((a\\b)/a)")
	goal, _ := speech.Read("b")
	_, is, e := speech.Prove([]api.Part{noun, verb, noun}, goal)
	return all(is, e)
}

func ofTerm() string {
	self := api.Term{Kind: api.TermFn, Type: api.Type{Kind: api.TypeBase}, Kids: []api.Term{{Kind: api.TermVar}}}
	return all(term.Normal(api.Term{Kind: api.TermApp, Kids: []api.Term{self, {Kind: api.TermCon, N: 3}}}))
}

func ofProve() string {
	premises := []api.Claim{{A: 1, B: 2}, {Some: true, A: 3, B: 1}}
	lines, is, _ := prove.Argue(premises, api.Claim{Some: true, A: 3, B: 2})
	return fmt.Sprint(is) + " " + all(prove.Sound(premises, lines))
}

func ofSense() string {
	s := api.Scene{Size: 2, Nouns: []int{3}, Verbs: []api.Verb{{Places: 2, Of: [][]int{{0, 0}, {1, 1}}}}}
	return all(sense.Readings(s, api.Saying{Phrases: []api.Phrase{{Quant: api.QuantEvery}, {Quant: api.QuantSome}}}))
}

func ofTalk() string {
	x, _ := talk.New(1, 2)
	x.Say(1, "x")
	return fmt.Sprint(x.Take())
}
