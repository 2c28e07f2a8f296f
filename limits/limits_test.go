package limits_test

import (
	"math"
	"testing"

	"portion/api"
	"portion/limits"
)

func TestIsPool(t *testing.T) {
	for _, pool := range [][]int{{0}, {1}, {api.MaxAmount}, {0, 0, 0, 0}, {1, api.MaxAmount, 0, 7}} {
		if !limits.IsPool(pool) {
			t.Errorf("%v is refused", pool)
		}
	}
	for _, pool := range [][]int{nil, {}, {-1}, {api.MaxAmount + 1}, {1, -1}, {1, 1, 1, api.MaxAmount + 1}, {0, 0, 0, 0, 0}, {math.MinInt}, {math.MaxInt}} {
		if limits.IsPool(pool) {
			t.Errorf("%v is taken", pool)
		}
	}
}

func TestIsSize(t *testing.T) {
	for _, size := range [][]int{{0}, {api.MaxSize}, {0, 0, 0, 0}, {1, api.MaxSize}} {
		if !limits.IsSize(size, len(size)) {
			t.Errorf("%v is refused", size)
		}
		if limits.IsSize(size, len(size)-1) || limits.IsSize(size, len(size)+1) {
			t.Errorf("%v is taken for other kinds", size)
		}
	}
	for _, size := range [][]int{{-1}, {api.MaxSize + 1}, {1, -1}, {1, 1, 1, api.MaxSize + 1}, {math.MinInt}, {math.MaxInt}} {
		if limits.IsSize(size, len(size)) {
			t.Errorf("%v is taken", size)
		}
	}
}

func TestSingleLimits(t *testing.T) {
	for _, n := range []int{math.MinInt, -1, 0, 1, 2, api.MaxKinds, api.MaxKinds + 1, api.MaxWeight, api.MaxWeight + 1, api.MaxCap, api.MaxCap + 1, math.MaxInt} {
		if limits.IsKinds(n) != (n >= 1 && n <= 4) {
			t.Errorf("IsKinds(%d)", n)
		}
		if limits.IsWeight(n) != (n >= 1 && n <= 100) {
			t.Errorf("IsWeight(%d)", n)
		}
		if limits.IsCap(n) != (n >= 0 && n <= 1000) {
			t.Errorf("IsCap(%d)", n)
		}
	}
}

func TestIsUser(t *testing.T) {
	for _, c := range []struct {
		demand       []int
		weight, most int
		kinds        int
		ok           bool
	}{
		{[]int{1}, 1, 0, 1, true},
		{[]int{api.MaxAmount}, api.MaxWeight, api.MaxCap, 1, true},
		{[]int{0, 0, 0, 1}, 1, 1, 4, true},
		{[]int{1, 0}, 1, 1, 2, true},
		{[]int{1}, 1, 1, 2, false},
		{[]int{1, 1}, 1, 1, 1, false},
		{nil, 1, 1, 0, false},
		{nil, 1, 1, 1, false},
		{[]int{0}, 1, 1, 1, false},
		{[]int{0, 0}, 1, 1, 2, false},
		{[]int{-1}, 1, 1, 1, false},
		{[]int{1, -1}, 1, 1, 2, false},
		{[]int{api.MaxAmount + 1}, 1, 1, 1, false},
		{[]int{1, math.MaxInt}, 1, 1, 2, false},
		{[]int{1}, 0, 1, 1, false},
		{[]int{1}, math.MinInt, 1, 1, false},
		{[]int{1}, api.MaxWeight + 1, 1, 1, false},
		{[]int{1}, 1, -1, 1, false},
		{[]int{1}, 1, api.MaxCap + 1, 1, false},
		{[]int{1}, 1, math.MaxInt, 1, false},
	} {
		u := api.User{Demand: c.demand, Weight: c.weight, Cap: c.most}
		if limits.IsUser(u, c.kinds) != c.ok {
			t.Errorf("IsUser(%v, %d) is not %v", u, c.kinds, c.ok)
		}
	}
}
