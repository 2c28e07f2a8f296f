package fill

import (
	"portion/api"
	"portion/ratio"
)

// readAll reads fractions that were handed in; false if one is none.
func readAll(texts []string) ([]ratio.Fraction, bool) {
	values := make([]ratio.Fraction, len(texts))
	for i, text := range texts {
		value, ok := ratio.Read(text)
		if !ok {
			return nil, false
		}
		values[i] = value
	}
	return values, true
}

func wholes(amounts []int) []ratio.Fraction {
	values := make([]ratio.Fraction, len(amounts))
	for i, amount := range amounts {
		values[i] = ratio.Whole(amount)
	}
	return values
}

func zeros(n int) []ratio.Fraction {
	values := make([]ratio.Fraction, n)
	for i := range values {
		values[i] = ratio.Whole(0)
	}
	return values
}

func isSomeBelowZero(values []ratio.Fraction) bool {
	zero := ratio.Whole(0)
	for _, value := range values {
		if ratio.Compare(value, zero) < 0 {
			return true
		}
	}
	return false
}

// least gives the least value; false if there is none.
func least(values []ratio.Fraction) (ratio.Fraction, bool) {
	if len(values) == 0 {
		return ratio.Fraction{}, false
	}
	lowest := values[0]
	for _, value := range values {
		if ratio.Compare(value, lowest) < 0 {
			lowest = value
		}
	}
	return lowest, true
}

// enoughFor tells of each kind that u wants how many tasks so much room of it
// is enough for.
func enoughFor(room []ratio.Fraction, u api.User) []ratio.Fraction {
	var counts []ratio.Fraction
	for kind, amount := range u.Demand {
		demand := ratio.Whole(amount)
		count, isWanted := ratio.Divide(room[kind], demand)
		if isWanted {
			counts = append(counts, count)
		}
	}
	return counts
}

// inAll adds up the values, one of each user, times the demands of a kind.
func inAll(users []api.User, values []ratio.Fraction, kind int) ratio.Fraction {
	sum := ratio.Whole(0)
	for i, u := range users {
		demand := ratio.Whole(u.Demand[kind])
		part := ratio.Multiply(values[i], demand)
		sum = ratio.Add(sum, part)
	}
	return sum
}
