// Package limits: what pools and users may be. Dues and fleets both ask it.
package limits

import "portion/api"

// IsPool tells whether these are 1 to MaxKinds amounts.
func IsPool(pool []int) bool {
	if len(pool) < 1 || len(pool) > api.MaxKinds {
		return false
	}
	return areAmounts(pool)
}

// IsUser tells whether u is a user of so many kinds.
func IsUser(u api.User, kinds int) bool {
	if len(u.Demand) != kinds {
		return false
	}
	if u.Weight < 1 || u.Weight > api.MaxWeight || u.Cap < 0 || u.Cap > api.MaxCap {
		return false
	}
	if !areAmounts(u.Demand) {
		return false
	}
	return wantsSome(u)
}

func areAmounts(list []int) bool {
	for _, amount := range list {
		if amount < 0 || amount > api.MaxAmount {
			return false
		}
	}
	return true
}

func wantsSome(u api.User) bool {
	for _, amount := range u.Demand {
		if amount > 0 {
			return true
		}
	}
	return false
}
