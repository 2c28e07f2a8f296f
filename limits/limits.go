// Package limits: what pools, sizes and users may be. Dues and fleets both ask
// it.
package limits

import "portion/api"

// IsPool tells whether these are 1 to MaxKinds amounts.
func IsPool(pool []int) bool {
	if !IsKinds(len(pool)) {
		return false
	}
	return areUpTo(pool, api.MaxAmount)
}

// IsKinds tells whether there may be so many kinds.
func IsKinds(kinds int) bool {
	return kinds >= 1 && kinds <= api.MaxKinds
}

// IsSize tells whether a machine of so many kinds may have this size.
func IsSize(size []int, kinds int) bool {
	if len(size) != kinds {
		return false
	}
	return areUpTo(size, api.MaxSize)
}

// IsUser tells whether u is a user of so many kinds.
func IsUser(u api.User, kinds int) bool {
	if len(u.Demand) != kinds {
		return false
	}
	if !IsWeight(u.Weight) || !IsCap(u.Cap) {
		return false
	}
	if !areUpTo(u.Demand, api.MaxAmount) {
		return false
	}
	return wantsSome(u)
}

// IsWeight tells whether a user may have this weight.
func IsWeight(weight int) bool {
	return weight >= 1 && weight <= api.MaxWeight
}

// IsCap tells whether a user may have this cap.
func IsCap(most int) bool {
	return most >= 0 && most <= api.MaxCap
}

func areUpTo(list []int, most int) bool {
	for _, amount := range list {
		if amount < 0 || amount > most {
			return false
		}
	}
	return true
}

func wantsSome(u api.User) bool {
	for _, amount := range u.Demand {
		if amount > 0 {
			return true
		}
	}
	return false
}
