package numbers

import "strings"

// Fraction of whole numbers: Bottom is above 0, and both have no common factor.
type Fraction struct{ Top, Bottom Whole }

// Part is top over bottom, which is above 0.
func Part(top, bottom Whole) Fraction {
	common := Common(top, bottom)
	if common.IsOne() {
		return Fraction{Top: top, Bottom: bottom}
	}
	top, _ = top.Over(common)
	bottom, _ = bottom.Over(common)
	return Fraction{Top: top, Bottom: bottom}
}

// Text is n/d, both in decimal.
func (f Fraction) Text() string { return f.Top.Text() + "/" + f.Bottom.Text() }

// ReadFraction takes what Text tells; false: it is not written so.
func ReadFraction(text string) (Fraction, bool) {
	above, below, _ := strings.Cut(text, "/")
	top, ok := Read(above)
	if !ok {
		return Fraction{}, false
	}
	bottom, ok := Read(below)
	if !ok || bottom.IsZero() || !Common(top, bottom).IsOne() {
		return Fraction{}, false
	}
	return Fraction{Top: top, Bottom: bottom}, true
}
