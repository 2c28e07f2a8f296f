// Package ratio: fractions of any size. Package exact is the same for callers,
// in texts of at most MaxText bytes; a sum on the way to an answer may be
// longer than that.
package ratio

import (
	"strconv"

	"portion/api"
	"portion/natural"
)

// Fraction is a value that Parse or a call of this package gave. It is in
// lowest terms, its bottom is 1 or more, and 0 has no minus: so each value has
// one form.
type Fraction struct {
	minus  bool
	top    natural.Number
	bottom natural.Number
}

// Whole gives a whole number.
func Whole(n int) Fraction {
	text := strconv.Itoa(n)
	value, _ := Parse(text)
	return value
}

// Read reads a fraction that a caller hands in: one of at most MaxText bytes.
// The length is looked at first: the rest then takes no longer for a text that
// is far too long.
func Read(text string) (Fraction, bool) {
	if len(text) > api.MaxText {
		return Fraction{}, false
	}
	return Parse(text)
}

// Parse reads a fraction in the one form that its value has; false if the text
// is none.
func Parse(text string) (Fraction, bool) {
	minus := len(text) > 0 && text[0] == '-'
	if minus {
		text = text[1:]
	}
	slash := slashIn(text)
	top, isTop := natural.Parse(text[:slash])
	if !isTop {
		return Fraction{}, false
	}
	if minus && top.IsZero() {
		return Fraction{}, false
	}
	if slash == len(text) {
		return Fraction{minus, top, natural.One()}, true
	}
	bottom, isBottom := natural.Parse(text[slash+1:])
	if !isBottom || !areLowest(top, bottom) {
		return Fraction{}, false
	}
	return Fraction{minus, top, bottom}, true
}

// slashIn tells where the first slash stands; behind the text if there is none.
func slashIn(text string) int {
	for i := 0; i < len(text); i++ {
		if text[i] == '/' {
			return i
		}
	}
	return len(text)
}

// areLowest also refuses a top of 0: with it the common divisor is the bottom.
func areLowest(top natural.Number, bottom natural.Number) bool {
	one := natural.One()
	if natural.Compare(bottom, one) <= 0 {
		return false
	}
	divisor := natural.CommonDivisor(top, bottom)
	return natural.Compare(divisor, one) == 0
}

// Text gives the one text that a has.
func (a Fraction) Text() string {
	text := a.top.Text()
	if a.minus {
		text = "-" + text
	}
	one := natural.One()
	if natural.Compare(a.bottom, one) > 0 {
		text += "/" + a.bottom.Text()
	}
	return text
}
