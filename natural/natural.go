// Package natural: whole numbers from 0 on, of any size.
package natural

import "strconv"

// The base is a power of ten, so that digits are read and written limb by
// limb; and a limb times a limb stays below 2^31, so that no sum here hangs on
// how wide an int is.
const (
	base  = 10000
	width = 4
)

// Number is a whole number from 0 on. The zero value is 0. The limbs stand
// lowest first, each below base, the last one not 0: so each value has one
// form. Nothing writes into the limbs of a Number once it is made.
type Number struct {
	limbs []int
}

// One gives 1.
func One() Number {
	return Number{limbs: []int{1}}
}

// Parse reads a whole number without a nought in front; false if the text is
// no such number.
func Parse(digits string) (Number, bool) {
	if !isWhole(digits) {
		return Number{}, false
	}
	limbs := make([]int, len(digits)/width+1)
	end := len(digits)
	for i := 0; end > 0; i++ {
		start := end - width
		if start < 0 {
			start = 0
		}
		limbs[i] = valueOf(digits[start:end])
		end = start
	}
	return trim(limbs), true
}

func isWhole(digits string) bool {
	if len(digits) == 0 {
		return false
	}
	for i := 0; i < len(digits); i++ {
		if digits[i] < '0' || digits[i] > '9' {
			return false
		}
	}
	return len(digits) == 1 || digits[0] != '0'
}

func valueOf(digits string) int {
	value := 0
	for i := 0; i < len(digits); i++ {
		value = value*10 + int(digits[i]-'0')
	}
	return value
}

func trim(limbs []int) Number {
	n := len(limbs)
	for n > 0 && limbs[n-1] == 0 {
		n--
	}
	return Number{limbs: limbs[:n]}
}

// Text gives the digits, with no nought in front.
func (a Number) Text() string {
	n := len(a.limbs)
	if n == 0 {
		return "0"
	}
	top := strconv.Itoa(a.limbs[n-1])
	text := []byte(top)
	for i := n - 2; i >= 0; i-- {
		text = appendLimb(text, a.limbs[i])
	}
	return string(text)
}

// appendLimb writes the noughts in front too: the limb is not the uppermost.
func appendLimb(text []byte, limb int) []byte {
	for unit := base / 10; unit > 0; unit /= 10 {
		text = append(text, byte('0'+limb/unit%10))
	}
	return text
}

// IsZero tells whether a is 0.
func (a Number) IsZero() bool {
	return len(a.limbs) == 0
}

// Compare answers -1, 0 or 1: a is below b, the same, above it.
func Compare(a Number, b Number) int {
	if len(a.limbs) < len(b.limbs) {
		return -1
	}
	if len(a.limbs) > len(b.limbs) {
		return 1
	}
	for i := len(a.limbs) - 1; i >= 0; i-- {
		if a.limbs[i] < b.limbs[i] {
			return -1
		}
		if a.limbs[i] > b.limbs[i] {
			return 1
		}
	}
	return 0
}
