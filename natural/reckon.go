package natural

// Add gives a and b together.
func Add(a Number, b Number) Number {
	if len(a.limbs) < len(b.limbs) {
		return Add(b, a)
	}
	limbs := make([]int, len(a.limbs)+1)
	carry := 0
	for i, x := range a.limbs {
		sum := x + limbAt(b, i) + carry
		limbs[i] = sum % base
		carry = sum / base
	}
	limbs[len(a.limbs)] = carry
	return trim(limbs)
}

// Subtract gives a less b; 0 if b is above a.
func Subtract(a Number, b Number) Number {
	if Compare(a, b) <= 0 {
		return Number{}
	}
	limbs := make([]int, len(a.limbs))
	borrow := 0
	for i, x := range a.limbs {
		rest := x - limbAt(b, i) - borrow
		borrow = 0
		if rest < 0 {
			rest += base
			borrow = 1
		}
		limbs[i] = rest
	}
	return trim(limbs)
}

func limbAt(a Number, i int) int {
	if i < len(a.limbs) {
		return a.limbs[i]
	}
	return 0
}

// Multiply gives a times b.
func Multiply(a Number, b Number) Number {
	limbs := make([]int, len(a.limbs)+len(b.limbs))
	for i, x := range a.limbs {
		carry := 0
		for j, y := range b.limbs {
			sum := limbs[i+j] + x*y + carry
			limbs[i+j] = sum % base
			carry = sum / base
		}
		limbs[i+len(b.limbs)] = carry
	}
	return trim(limbs)
}

// Quotient tells how often b goes into a; 0 if b is 0.
func Quotient(a Number, b Number) Number {
	rest := roomyCopy(a)
	limbs := takeOffAll(rest, b.limbs)
	return trim(limbs)
}

// Remainder gives what is left of a behind that; a itself if b is 0.
func Remainder(a Number, b Number) Number {
	rest := roomyCopy(a)
	takeOffAll(rest, b.limbs)
	return trim(rest)
}

// roomyCopy leaves a nought on top: takeOff looks at one limb more than its
// divisor has, at the first limb of the quotient too.
func roomyCopy(a Number) []int {
	limbs := make([]int, len(a.limbs)+1)
	copy(limbs, a.limbs)
	return limbs
}

// takeOffAll is division on paper: it leaves the remainder in rest and answers
// the quotient. The uppermost limb of rest is 0, that of by is not.
func takeOffAll(rest []int, by []int) []int {
	if len(by) == 0 || len(rest) <= len(by) {
		return nil
	}
	quotient := make([]int, len(rest)-len(by))
	for i := len(quotient) - 1; i >= 0; i-- {
		upper := rest[i : i+len(by)+1]
		quotient[i] = takeOff(upper, by)
	}
	return quotient
}

// takeOff takes by off rest until rest is below it, and tells how often. The
// rest has one limb more than by and is below base times by, so the answer is
// one limb. A guess from the uppermost limbs, with that of by rounded up, is
// never too great; where it is too small, the next round takes the rest.
func takeOff(rest []int, by []int) int {
	n := len(by)
	times := 0
	for !isBelow(rest, by) {
		guess := (rest[n]*base + rest[n-1]) / (by[n-1] + 1)
		if guess == 0 {
			guess = 1
		}
		subtractTimes(rest, by, guess)
		times += guess
	}
	return times
}

func isBelow(rest []int, by []int) bool {
	if rest[len(by)] > 0 {
		return false
	}
	for i := len(by) - 1; i >= 0; i-- {
		if rest[i] != by[i] {
			return rest[i] < by[i]
		}
	}
	return false
}

func subtractTimes(rest []int, by []int, times int) {
	carry := 0
	for i, x := range by {
		carry += x * times
		left := rest[i] - carry%base
		carry /= base
		if left < 0 {
			left += base
			carry++
		}
		rest[i] = left
	}
	rest[len(by)] -= carry
}

// CommonDivisor gives the greatest number that divides both; if one is 0, the
// other.
func CommonDivisor(a Number, b Number) Number {
	for !b.IsZero() {
		rest := Remainder(a, b)
		a = b
		b = rest
	}
	return a
}
