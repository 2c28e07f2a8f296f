package fleet

import "portion/api"

// amounts is how much there is of each kind. Of the kinds that a fleet does
// not have it is 0 throughout, so that nothing here asks how many it has.
type amounts [api.MaxKinds]int

func amountsOf(list []int) amounts {
	var a amounts
	copy(a[:], list)
	return a
}

// list gives the amounts of the kinds that there are.
func (a amounts) list(kinds int) []int {
	var l []int
	for kind, amount := range a {
		if kind < kinds {
			l = append(l, amount)
		}
	}
	return l
}

func (a amounts) plus(b amounts) amounts {
	for kind, amount := range b {
		a[kind] += amount
	}
	return a
}

func (a amounts) minus(b amounts) amounts {
	for kind, amount := range b {
		a[kind] -= amount
	}
	return a
}

func (a amounts) times(n int) amounts {
	for kind := range a {
		a[kind] *= n
	}
	return a
}

// bears tells whether b is of no kind more than a.
func (a amounts) bears(b amounts) bool {
	for kind, amount := range b {
		if amount > a[kind] {
			return false
		}
	}
	return true
}

func (a amounts) sum() int {
	sum := 0
	for _, amount := range a {
		sum += amount
	}
	return sum
}
