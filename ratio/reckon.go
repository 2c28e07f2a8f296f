package ratio

import "portion/natural"

// Add gives a and b together.
func Add(a Fraction, b Fraction) Fraction {
	left := natural.Multiply(a.top, b.bottom)
	right := natural.Multiply(b.top, a.bottom)
	bottom := natural.Multiply(a.bottom, b.bottom)
	if a.minus == b.minus {
		sum := natural.Add(left, right)
		return lowest(a.minus, sum, bottom)
	}
	if natural.Compare(left, right) < 0 {
		excess := natural.Subtract(right, left)
		return lowest(b.minus, excess, bottom)
	}
	excess := natural.Subtract(left, right)
	return lowest(a.minus, excess, bottom)
}

// Subtract gives a less b.
func Subtract(a Fraction, b Fraction) Fraction {
	opposite := Fraction{!b.minus && !b.top.IsZero(), b.top, b.bottom}
	return Add(a, opposite)
}

// Multiply gives a times b.
func Multiply(a Fraction, b Fraction) Fraction {
	top := natural.Multiply(a.top, b.top)
	bottom := natural.Multiply(a.bottom, b.bottom)
	return lowest(a.minus != b.minus, top, bottom)
}

// Divide gives a over b; false if b is 0.
func Divide(a Fraction, b Fraction) (Fraction, bool) {
	if b.top.IsZero() {
		return Fraction{}, false
	}
	top := natural.Multiply(a.top, b.bottom)
	bottom := natural.Multiply(a.bottom, b.top)
	return lowest(a.minus != b.minus, top, bottom), true
}

func lowest(minus bool, top natural.Number, bottom natural.Number) Fraction {
	divisor := natural.CommonDivisor(top, bottom)
	top = natural.Quotient(top, divisor)
	bottom = natural.Quotient(bottom, divisor)
	return Fraction{minus && !top.IsZero(), top, bottom}
}

// Compare answers -1, 0 or 1: a is below b, the same, above it.
func Compare(a Fraction, b Fraction) int {
	if a.minus != b.minus {
		if a.minus {
			return -1
		}
		return 1
	}
	left := natural.Multiply(a.top, b.bottom)
	right := natural.Multiply(b.top, a.bottom)
	if a.minus {
		return natural.Compare(right, left)
	}
	return natural.Compare(left, right)
}

// Floor gives the greatest whole number that is not above a.
func Floor(a Fraction) Fraction {
	whole := natural.Quotient(a.top, a.bottom)
	rest := natural.Remainder(a.top, a.bottom)
	one := natural.One()
	if a.minus && !rest.IsZero() {
		whole = natural.Add(whole, one)
	}
	return Fraction{a.minus, whole, one}
}
