// Package exact: fractions as texts: see DOC.md.
package exact

import (
	"portion/api"
	"portion/ratio"
)

// Check tells whether a text is a fraction (P3).
func Check(a string) api.Errno {
	_, e := read(a)
	return e
}

// Add gives a and b together (P4).
func Add(a string, b string) (string, api.Errno) {
	x, y, e := readBoth(a, b)
	if e != api.OK {
		return "", e
	}
	sum := ratio.Add(x, y)
	return sum.Text(), api.OK
}

// Subtract gives a less b (P4).
func Subtract(a string, b string) (string, api.Errno) {
	x, y, e := readBoth(a, b)
	if e != api.OK {
		return "", e
	}
	difference := ratio.Subtract(x, y)
	return difference.Text(), api.OK
}

// Multiply gives a times b (P4).
func Multiply(a string, b string) (string, api.Errno) {
	x, y, e := readBoth(a, b)
	if e != api.OK {
		return "", e
	}
	product := ratio.Multiply(x, y)
	return product.Text(), api.OK
}

// Divide gives a over b (P4).
func Divide(a string, b string) (string, api.Errno) {
	x, y, e := readBoth(a, b)
	if e != api.OK {
		return "", e
	}
	quotient, ok := ratio.Divide(x, y)
	if !ok {
		return "", api.ErrZero
	}
	return quotient.Text(), api.OK
}

// Compare tells which of two is less (P5).
func Compare(a string, b string) (int, api.Errno) {
	x, y, e := readBoth(a, b)
	if e != api.OK {
		return 0, e
	}
	return ratio.Compare(x, y), api.OK
}

// Floor gives the greatest whole number that is not above a (P5).
func Floor(a string) (string, api.Errno) {
	x, e := read(a)
	if e != api.OK {
		return "", e
	}
	whole := ratio.Floor(x)
	return whole.Text(), api.OK
}

func read(a string) (ratio.Fraction, api.Errno) {
	x, ok := ratio.Read(a)
	if !ok {
		return ratio.Fraction{}, api.ErrText
	}
	return x, api.OK
}

func readBoth(a string, b string) (ratio.Fraction, ratio.Fraction, api.Errno) {
	x, e := read(a)
	if e != api.OK {
		return ratio.Fraction{}, ratio.Fraction{}, e
	}
	y, e := read(b)
	if e != api.OK {
		return ratio.Fraction{}, ratio.Fraction{}, e
	}
	return x, y, api.OK
}
