package limits_test

import (
	"math"
	"testing"

	"portion/api"
	"portion/limits"
)

func TestIsPool(t *testing.T) {
	for _, pool := range [][]int{{0}, {1}, {api.MaxAmount}, {0, 0, 0, 0}, {1, api.MaxAmount, 0, 7}} {
		if !limits.IsPool(pool) {
			t.Errorf("%v is refused", pool)
		}
	}
	for _, pool := range [][]int{nil, {}, {-1}, {api.MaxAmount + 1}, {1, -1}, {1, 1, 1, api.MaxAmount + 1}, {0, 0, 0, 0, 0}, {math.MinInt}, {math.MaxInt}} {
		if limits.IsPool(pool) {
			t.Errorf("%v is taken", pool)
		}
	}
}

func TestIsUser(t *testing.T) {
	for _, c := range []struct {
		demand       []int
		weight, most int
		kinds        int
		ok           bool
	}{
		{[]int{1}, 1, 0, 1, true},
		{[]int{api.MaxAmount}, api.MaxWeight, api.MaxCap, 1, true},
		{[]int{0, 0, 0, 1}, 1, 1, 4, true},
		{[]int{1, 0}, 1, 1, 2, true},
		{[]int{1}, 1, 1, 2, false},
		{[]int{1, 1}, 1, 1, 1, false},
		{nil, 1, 1, 0, false},
		{nil, 1, 1, 1, false},
		{[]int{0}, 1, 1, 1, false},
		{[]int{0, 0}, 1, 1, 2, false},
		{[]int{-1}, 1, 1, 1, false},
		{[]int{1, -1}, 1, 1, 2, false},
		{[]int{api.MaxAmount + 1}, 1, 1, 1, false},
		{[]int{1, math.MaxInt}, 1, 1, 2, false},
		{[]int{1}, 0, 1, 1, false},
		{[]int{1}, math.MinInt, 1, 1, false},
		{[]int{1}, api.MaxWeight + 1, 1, 1, false},
		{[]int{1}, 1, -1, 1, false},
		{[]int{1}, 1, api.MaxCap + 1, 1, false},
		{[]int{1}, 1, math.MaxInt, 1, false},
	} {
		u := api.User{Demand: c.demand, Weight: c.weight, Cap: c.most}
		if limits.IsUser(u, c.kinds) != c.ok {
			t.Errorf("IsUser(%v, %d) is not %v", u, c.kinds, c.ok)
		}
	}
}
