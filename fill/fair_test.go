package fill_test

import (
	"math/big"
	"math/rand"
	"slices"
	"testing"

	"portion/api"
	"portion/fill"
)

// The tests of this file are of what P16 says of the dues, and of P2.

func solved(t *testing.T, pool []int, users []api.User) []*big.Rat {
	t.Helper()
	shares, e := fill.Solve(pool, users)
	if e != api.OK {
		t.Fatalf("P7: Solve(%v, %v): %d", pool, users, e)
	}
	var tasks []*big.Rat
	for i := range shares {
		tasks = append(tasks, value(t, shares[i].Tasks))
	}
	return tasks
}

func usefulOf(t *testing.T, u api.User, bundle []*big.Rat) *big.Rat {
	t.Helper()
	n, e := fill.Useful(u, texts(bundle))
	if e != api.OK {
		t.Fatalf("P9: Useful(%v, %q): %d", u, texts(bundle), e)
	}
	return value(t, n)
}

// bundleOf is so much of each kind as these tasks want, times a factor.
func bundleOf(u api.User, tasks *big.Rat, factor *big.Rat) []*big.Rat {
	var l []*big.Rat
	for _, demand := range u.Demand {
		x := times(tasks, demand)
		l = append(l, x.Mul(x, factor))
	}
	return l
}

func TestThePoolBearsTheDues(t *testing.T) {
	r := rand.New(rand.NewSource(9))
	for range 1000 {
		pool, users := drawn(r)
		tasks := texts(solved(t, pool, users))
		if ok, e := fill.Feasible(pool, users, tasks); !ok || e != api.OK {
			t.Fatalf("P16: Feasible(%v, %v, %q) = %v, %d", pool, users, tasks, ok, e)
		}
	}
}

func TestMoreCostsSomebodyOfNoGreaterLevel(t *testing.T) {
	r := rand.New(rand.NewSource(10))
	seen := 0
	for range 6000 {
		pool, users := drawn(r)
		tasks := solved(t, pool, users)
		other := moved(r, tasks)
		if !isFeasible(pool, users, other) {
			continue
		}
		for i := range users {
			if other[i].Cmp(tasks[i]) <= 0 {
				continue
			}
			seen++
			own := levelOf(pool, users[i], tasks[i])
			isPaid := false
			for j := range users {
				isPaid = isPaid || other[j].Cmp(tasks[j]) < 0 && levelOf(pool, users[j], tasks[j]).Cmp(own) <= 0
			}
			if !isPaid {
				t.Fatalf("P16: of %v, %v: %v gives user %d more than %v at no cost", pool, users, other, i, tasks)
			}
		}
	}
	if seen < 100 {
		t.Errorf("%d users only would have more: this tests little", seen)
	}
}

func TestNobodyEnviesAnother(t *testing.T) {
	r := rand.New(rand.NewSource(11))
	for range 1000 {
		pool, users := drawn(r)
		tasks := solved(t, pool, users)
		for i, u := range users {
			for j, other := range users {
				factor := big.NewRat(int64(u.Weight), int64(other.Weight))
				if got := usefulOf(t, u, bundleOf(other, tasks[j], factor)); got.Cmp(tasks[i]) > 0 {
					t.Fatalf("P16: of %v, %v: user %d gets %v out of what user %d is due", pool, users, i, got, j)
				}
			}
		}
	}
}

func TestNobodyGetsLessThanItsPart(t *testing.T) {
	r := rand.New(rand.NewSource(12))
	for range 1000 {
		pool, users := drawn(r)
		tasks := solved(t, pool, users)
		sum := 0
		for _, u := range users {
			sum += u.Weight
		}
		for i, u := range users {
			var part []*big.Rat
			for _, amount := range pool {
				part = append(part, big.NewRat(int64(amount)*int64(u.Weight), int64(sum)))
			}
			if got := usefulOf(t, u, part); got.Cmp(tasks[i]) > 0 {
				t.Fatalf("P16: of %v, %v: user %d gets %v out of its part, but is due %v", pool, users, i, got, tasks[i])
			}
		}
	}
}

func TestNobodyGainsByALie(t *testing.T) {
	r := rand.New(rand.NewSource(13))
	for range 3000 {
		pool, users := drawn(r)
		if len(users) == 0 {
			continue
		}
		tasks := solved(t, pool, users)
		i := r.Intn(len(users))
		lie := drawnUser(r, len(pool), slices.Max(users[i].Demand), 1)
		if r.Intn(2) == 0 {
			lie.Demand = users[i].Demand
		}
		lie.Weight = users[i].Weight
		told := slices.Clone(users)
		told[i] = lie
		given := bundleOf(lie, solved(t, pool, told)[i], whole(1))
		if got := usefulOf(t, users[i], given); got.Cmp(tasks[i]) > 0 {
			t.Fatalf("P16: of %v, %v: user %d gets %v, not %v, when it tells %v", pool, users, i, got, tasks[i], lie)
		}
	}
}

func TestListsStayTheCallers(t *testing.T) {
	pool := []int{12, 12, 77}
	users := []api.User{user(1, 3, 1, 0, 88), user(1, 1000, 1, 1), user(2, 1000, 0, 1), user(99, 99, 99)}
	users[0].Demand = users[0].Demand[:2]
	tasks := []string{"3", "4", "8", "66"}
	bundle := []string{"7", "9", "55"}
	first, _ := fill.Solve(pool[:2], users[:3])
	keep := slices.Clone(first)
	second, _ := fill.Solve(pool[:2], users[:3])
	ok, _ := fill.Feasible(pool[:2], users[:3], tasks[:3])
	n, _ := fill.Useful(users[1], bundle[:2])
	if !ok || n != "7" {
		t.Errorf("P8, P9: %v, %s", ok, n)
	}
	if !slices.Equal(pool, []int{12, 12, 77}) || !slices.Equal(tasks, []string{"3", "4", "8", "66"}) || !slices.Equal(bundle, []string{"7", "9", "55"}) {
		t.Errorf("P2: a list was written into: %v, %q, %q", pool, tasks, bundle)
	}
	if !slices.Equal(users[0].Demand[:3], []int{1, 0, 88}) || !slices.Equal(users[1].Demand, []int{1, 1}) || !slices.Equal(users[2].Demand, []int{0, 1}) || users[0].Cap != 3 || users[2].Weight != 2 || users[3].Weight != 99 || users[3].Demand[0] != 99 {
		t.Errorf("P2: a user was written into: %v", users)
	}
	clear(first)
	pool[0], users[0].Demand[0], users[2].Weight = 1, 2, 3
	if !slices.Equal(second, keep) {
		t.Errorf("P2: a list of shares is not fresh: %v", second)
	}
	pool[0], users[0].Demand[0], users[2].Weight = 12, 1, 2
	third, _ := fill.Solve(pool[:2], users[:3])
	if !slices.Equal(third, keep) {
		t.Errorf("P2: an answer hangs on calls before it: %v", third)
	}
}
