package fill_test

import (
	"math"
	"math/big"
	"math/rand"
	"slices"
	"strings"
	"testing"

	"portion/api"
	"portion/exact"
	"portion/fill"
)

func user(weight int, most int, demand ...int) api.User {
	return api.User{Demand: demand, Weight: weight, Cap: most}
}

func share(tasks string, level string, stop int) api.Share {
	return api.Share{Tasks: tasks, Level: level, Stop: stop}
}

func whole(n int) *big.Rat {
	return big.NewRat(int64(n), 1)
}

// value takes the text of an answer, which has to be in the form of P3.
func value(t *testing.T, text string) *big.Rat {
	t.Helper()
	x, ok := new(big.Rat).SetString(text)
	if !ok || x.RatString() != text {
		t.Fatalf("P3: %q is no fraction", text)
	}
	return x
}

func times(x *big.Rat, n int) *big.Rat {
	return new(big.Rat).Mul(x, whole(n))
}

func TestSolve(t *testing.T) {
	for _, c := range []struct {
		name  string
		pool  []int
		users []api.User
		want  []api.Share
	}{
		{"document 1", []int{9, 18}, []api.User{user(1, 1000, 1, 4), user(1, 1000, 3, 1)}, []api.Share{share("3", "2/3", 0), share("2", "2/3", 0)}},
		{"document 2", []int{10}, []api.User{user(1, 1000, 3), user(1, 1000, 2)}, []api.Share{share("5/3", "1/2", 0), share("5/2", "1/2", 0)}},
		{"document 3", []int{10}, []api.User{user(1, 5, 3), user(4, 3, 2)}, []api.Share{share("4/3", "2/5", 0), share("3", "3/20", -1)}},
		{"document 4", []int{7}, []api.User{user(3, 1000, 2), user(2, 1000, 5), user(1, 1000, 1)}, []api.Share{share("7/4", "1/6", 0), share("7/15", "1/6", 0), share("7/6", "1/6", 0)}},
		{"document 5", []int{12, 12}, []api.User{user(1, 3, 1, 0), user(1, 1000, 1, 1), user(2, 1000, 0, 1)}, []api.Share{share("3", "1/4", -1), share("4", "1/3", 1), share("8", "1/3", 1)}},
		{"document 6", []int{10, 0}, []api.User{user(1, 1000, 1, 0), user(1, 1000, 1, 1), user(1, 0, 2, 0)}, []api.Share{share("10", "1", 0), share("0", "0", 1), share("0", "0", -1)}},
		{"nobody", []int{10, 0}, []api.User{}, nil},
		{"nothing there", []int{0, 0}, []api.User{user(1, 7, 0, 1), user(1, 0, 1, 1), user(9, 7, 1, 1)}, []api.Share{share("0", "0", 1), share("0", "0", -1), share("0", "0", 0)}},
		{"a cap, then two kinds", []int{10, 20, 30}, []api.User{user(1, 1000, 1, 0, 0), user(1, 1000, 1, 1, 0), user(2, 4, 0, 1, 1), user(3, 1000, 0, 0, 1)}, []api.Share{share("5", "1/2", 0), share("5", "1/2", 0), share("4", "1/10", -1), share("26", "13/45", 2)}},
		{"a kind used up later by a greater level", []int{10, 4}, []api.User{user(1, 1000, 1, 1), user(1, 1000, 1, 0), user(1, 1000, 0, 1)}, []api.Share{share("2", "1/2", 1), share("8", "4/5", 0), share("2", "1/2", 1)}},
		{"two kinds at once: the first", []int{4, 4}, []api.User{user(1, 9, 0, 1), user(1, 9, 1, 1), user(1, 9, 1, 0)}, []api.Share{share("2", "1/2", 1), share("2", "1/2", 0), share("2", "1/2", 0)}},
		{"a cap and a kind at once: the cap", []int{6}, []api.User{user(1, 3, 1), user(1, 9, 1)}, []api.Share{share("3", "1/2", -1), share("3", "1/2", 0)}},
		{"caps that leave room over", []int{100, 100}, []api.User{user(1, 2, 3, 5), user(7, 1, 9, 0)}, []api.Share{share("2", "1/10", -1), share("1", "9/700", -1)}},
		{"one of no room does not stop the others", []int{8, 0}, []api.User{user(1, 1000, 1, 1), user(1, 1000, 2, 0)}, []api.Share{share("0", "0", 1), share("4", "1", 0)}},
		{"less than a task", []int{1}, []api.User{user(1, 1, api.MaxAmount)}, []api.Share{share("1/10000", "1", 0)}},
		{"the greatest cap", []int{api.MaxAmount}, []api.User{user(1, api.MaxCap, 1)}, []api.Share{share("1000", "1/10", -1)}},
		{"the greatest cap, missed", []int{999}, []api.User{user(1, api.MaxCap, 1)}, []api.Share{share("999", "1", 0)}},
		{"weights 1 and 100", []int{api.MaxAmount}, []api.User{user(api.MaxWeight, api.MaxCap, 100), user(1, api.MaxCap, 100)}, []api.Share{share("10000/101", "1/101", 0), share("100/101", "1/101", 0)}},
	} {
		got, e := fill.Solve(c.pool, c.users)
		if e != api.OK || !slices.Equal(got, c.want) {
			t.Errorf("P7: %s: Solve(%v, %v) = %v, %d, want %v", c.name, c.pool, c.users, got, e, c.want)
		}
	}
}

func TestSolveAtAllLimits(t *testing.T) {
	pool := []int{api.MaxAmount, api.MaxAmount, api.MaxAmount, api.MaxAmount}
	var users []api.User
	for range api.MaxUsers {
		users = append(users, user(api.MaxWeight, api.MaxCap, pool...))
	}
	got, e := fill.Solve(pool, users)
	if e != api.OK || len(got) != api.MaxUsers {
		t.Fatalf("P7: %v, %d", got, e)
	}
	for i := range got {
		if got[i] != share("1/6", "1/600", 0) {
			t.Errorf("P7: user %d: %v", i, got[i])
		}
	}
}

// drawn leans towards what stops users at different levels: caps that are
// reached, kinds that not all want, and now and then a kind of which there is
// nothing.
func drawn(r *rand.Rand) ([]int, []api.User) {
	kinds := 1 + r.Intn(api.MaxKinds)
	most := []int{3, 12, 200, api.MaxAmount}[r.Intn(4)]
	heaviest := []int{1, 3, api.MaxWeight}[r.Intn(3)]
	pool := make([]int, kinds)
	for k := range pool {
		pool[k] = r.Intn(most + 1)
	}
	users := make([]api.User, r.Intn(api.MaxUsers+1))
	for i := range users {
		users[i] = drawnUser(r, kinds, most, heaviest)
	}
	return pool, users
}

func drawnUser(r *rand.Rand, kinds int, most int, heaviest int) api.User {
	u := user(1+r.Intn(heaviest), []int{r.Intn(4), r.Intn(40), api.MaxCap}[r.Intn(3)])
	u.Demand = make([]int, kinds)
	for k := range u.Demand {
		if r.Intn(3) > 0 {
			u.Demand[k] = r.Intn(most + 1)
		}
	}
	u.Demand[r.Intn(kinds)] = 1 + r.Intn(most)
	return u
}

func levelOf(pool []int, u api.User, tasks *big.Rat) *big.Rat {
	level := new(big.Rat)
	if tasks.Sign() == 0 {
		return level
	}
	for k, amount := range pool {
		if u.Demand[k] == 0 {
			continue
		}
		part := new(big.Rat).Mul(tasks, big.NewRat(int64(u.Demand[k]), int64(amount)))
		if part.Cmp(level) > 0 {
			level = part
		}
	}
	return level.Quo(level, whole(u.Weight))
}

// grown works the tasks out by the words of P7, but user by user and level by
// level from the start on: at which level would everybody who is not yet
// stopped come to its cap or use up a kind?
func grown(pool []int, users []api.User) []*big.Rat {
	tasks := make([]*big.Rat, len(users))
	for {
		var lowest *big.Rat
		var who []int
		for i := range users {
			if tasks[i] != nil {
				continue
			}
			level := stopLevel(pool, users, tasks, i)
			if lowest == nil || level.Cmp(lowest) < 0 {
				lowest, who = level, nil
			}
			if level.Cmp(lowest) == 0 {
				who = append(who, i)
			}
		}
		if lowest == nil {
			return tasks
		}
		for _, i := range who {
			tasks[i] = new(big.Rat).Mul(lowest, speedOf(pool, users[i]))
		}
	}
}

func speedOf(pool []int, u api.User) *big.Rat {
	var speed *big.Rat
	for k, amount := range pool {
		if u.Demand[k] == 0 {
			continue
		}
		part := big.NewRat(int64(amount)*int64(u.Weight), int64(u.Demand[k]))
		if speed == nil || part.Cmp(speed) < 0 {
			speed = part
		}
	}
	return speed
}

// stopLevel is the level at which user i would stop if the others that are not
// yet stopped (their tasks are nil) all went on.
func stopLevel(pool []int, users []api.User, tasks []*big.Rat, i int) *big.Rat {
	speed := speedOf(pool, users[i])
	if speed.Sign() == 0 {
		return new(big.Rat)
	}
	lowest := new(big.Rat).Quo(whole(users[i].Cap), speed)
	for k, amount := range pool {
		if users[i].Demand[k] == 0 {
			continue
		}
		left, rising := whole(amount), new(big.Rat)
		for j, u := range users {
			if tasks[j] == nil {
				rising.Add(rising, times(speedOf(pool, u), u.Demand[k]))
			} else {
				left.Sub(left, times(tasks[j], u.Demand[k]))
			}
		}
		if level := left.Quo(left, rising); level.Cmp(lowest) < 0 {
			lowest = level
		}
	}
	return lowest
}

func wantStop(pool []int, users []api.User, tasks []*big.Rat, i int) int {
	if tasks[i].Cmp(whole(users[i].Cap)) == 0 {
		return -1
	}
	own := levelOf(pool, users[i], tasks[i])
	for k, amount := range pool {
		used, ok := new(big.Rat), users[i].Demand[k] > 0
		for j, u := range users {
			used.Add(used, times(tasks[j], u.Demand[k]))
			if u.Demand[k] > 0 && levelOf(pool, u, tasks[j]).Cmp(own) > 0 {
				ok = false
			}
		}
		if ok && used.Cmp(whole(amount)) == 0 {
			return k
		}
	}
	return -2
}

func TestSolveDrawn(t *testing.T) {
	r := rand.New(rand.NewSource(5))
	for range 4000 {
		pool, users := drawn(r)
		got, e := fill.Solve(pool, users)
		if e != api.OK || len(got) != len(users) {
			t.Fatalf("P7: Solve(%v, %v) = %v, %d", pool, users, got, e)
		}
		tasks := grown(pool, users)
		for i, u := range users {
			want := api.Share{Tasks: tasks[i].RatString(), Level: levelOf(pool, u, tasks[i]).RatString(), Stop: wantStop(pool, users, tasks, i)}
			if got[i] != want {
				t.Fatalf("P7: Solve(%v, %v) = %v: user %d should have %v", pool, users, got, i, want)
			}
		}
	}
}

// With primes little cancels, so the texts are long.
func TestSolveTextsAreFractions(t *testing.T) {
	primes := []int{9973, 9967, 9949, 9941, 9931, 9929, 9923, 9907, 9901, 9887, 9883, 9871, 9859, 9857, 9851, 9839, 9833, 9829, 9817, 9811, 9803, 9791, 9787, 9781}
	r := rand.New(rand.NewSource(6))
	longest := 0
	for range 300 {
		pool := []int{api.MaxAmount - r.Intn(50), 1 + r.Intn(api.MaxAmount), api.MaxAmount - r.Intn(50), 1 + r.Intn(api.MaxAmount)}
		r.Shuffle(len(primes), func(i, j int) { primes[i], primes[j] = primes[j], primes[i] })
		var users []api.User
		for i, weight := range []int{97, 89, 83, 79, 73, 71} {
			demand := slices.Clone(primes[4*i : 4*i+4])
			for range r.Intn(4) {
				demand[r.Intn(4)] = 0
			}
			demand[i%4] = primes[4*i]
			users = append(users, user(weight, api.MaxCap, demand...))
		}
		got, e := fill.Solve(pool, users)
		if e != api.OK {
			t.Fatalf("P7: Solve(%v, %v): %d", pool, users, e)
		}
		for i := range got {
			if exact.Check(got[i].Tasks) != api.OK || exact.Check(got[i].Level) != api.OK {
				t.Fatalf("P7: Solve(%v, %v) = %v: no fractions", pool, users, got)
			}
			longest = max(longest, len(got[i].Tasks), len(got[i].Level))
		}
	}
	if longest < 60 {
		t.Errorf("the longest text has %d bytes only: this tests little", longest)
	}
}

func TestRefusedPoolsAndUsers(t *testing.T) {
	good := user(1, 1, 1)
	most := slices.Repeat([]api.User{good}, api.MaxUsers)
	for _, c := range []struct {
		pool  []int
		users []api.User
		e     api.Errno
	}{
		{[]int{0}, nil, api.OK}, {[]int{0}, []api.User{}, api.OK}, {[]int{api.MaxAmount}, most, api.OK}, {[]int{0, 0, 0, 0}, nil, api.OK}, {[]int{1}, []api.User{user(api.MaxWeight, api.MaxCap, api.MaxAmount)}, api.OK}, {[]int{1}, []api.User{user(1, 0, 1)}, api.OK},
		{nil, nil, api.ErrPool}, {[]int{}, nil, api.ErrPool}, {make([]int, api.MaxKinds+1), nil, api.ErrPool}, {[]int{-1}, nil, api.ErrPool}, {[]int{1, -1}, nil, api.ErrPool}, {[]int{api.MaxAmount + 1}, nil, api.ErrPool}, {[]int{math.MaxInt}, nil, api.ErrPool}, {[]int{math.MinInt}, nil, api.ErrPool},
		{[]int{-1}, []api.User{user(0, 0)}, api.ErrPool}, {nil, slices.Concat(most, most), api.ErrPool},
		{[]int{1}, append(slices.Clone(most), good), api.ErrUser}, {[]int{1, 1}, []api.User{good}, api.ErrUser}, {[]int{1}, []api.User{user(1, 1, 1, 1)}, api.ErrUser}, {[]int{1}, []api.User{{}}, api.ErrUser}, {[]int{1}, []api.User{good, user(1, 1, 0)}, api.ErrUser}, {[]int{1, 1}, []api.User{user(1, 1, 1, -1)}, api.ErrUser}, {[]int{1}, []api.User{user(1, 1, api.MaxAmount+1)}, api.ErrUser},
		{[]int{1}, []api.User{user(0, 1, 1)}, api.ErrUser}, {[]int{1}, []api.User{user(-1, 1, 1)}, api.ErrUser}, {[]int{1}, []api.User{user(api.MaxWeight+1, 1, 1)}, api.ErrUser}, {[]int{1}, []api.User{user(1, -1, 1)}, api.ErrUser}, {[]int{1}, []api.User{user(1, api.MaxCap+1, 1)}, api.ErrUser}, {[]int{1}, []api.User{user(math.MinInt, math.MaxInt, 1)}, api.ErrUser},
	} {
		shares, e := fill.Solve(c.pool, c.users)
		if e != c.e || e != api.OK && shares != nil {
			t.Errorf("P6: Solve(%v, %v) = %v, %d, want %d", c.pool, c.users, shares, e, c.e)
		}
		tasks := slices.Repeat([]string{"0"}, len(c.users))
		if ok, e := fill.Feasible(c.pool, c.users, tasks); e != c.e || ok != (c.e == api.OK) {
			t.Errorf("P6: Feasible(%v, %v, %q) = %v, %d, want %d", c.pool, c.users, tasks, ok, e, c.e)
		}
		if c.e == api.OK {
			continue
		}
		if ok, e := fill.Feasible(c.pool, c.users, []string{"x", "-1"}); e != c.e || ok {
			t.Errorf("P8: the list is looked at before the pool and the users: %v, %d, want %d", ok, e, c.e)
		}
	}
}

func TestFeasible(t *testing.T) {
	nines := strings.Repeat("9", api.MaxText)
	ten := []int{10}
	two := []api.User{user(1, 1000, 3), user(1, 1000, 2)}
	capped := []api.User{user(1, 2, 0, 1), user(1, 0, 1, 1)}
	for _, c := range []struct {
		pool  []int
		users []api.User
		tasks []string
		ok    bool
		e     api.Errno
	}{
		{ten, two, []string{"5/3", "5/2"}, true, api.OK},
		{ten, two, []string{"2", "2"}, true, api.OK},
		{ten, two, []string{"2", "5/2"}, false, api.OK},
		{ten, two, []string{"-1", "1"}, false, api.OK},
		{ten, two, []string{"1", "-1/" + nines[:api.MaxText-3]}, false, api.OK},
		{ten, two, []string{"10/3", "0"}, true, api.OK},
		{ten, two, []string{"10/3", "1/" + nines[:api.MaxText-2]}, false, api.OK},
		{ten, two, []string{nines, nines}, false, api.OK},
		{ten, nil, nil, true, api.OK},
		{ten, nil, []string{}, true, api.OK},
		{[]int{0}, two, []string{"0", "0"}, true, api.OK},
		{[]int{0}, two, []string{"0", "1/1000"}, false, api.OK},
		{[]int{0, 9}, capped, []string{"2", "0"}, true, api.OK},
		{[]int{0, 9}, capped, []string{"2001/1000", "0"}, false, api.OK},
		{[]int{9, 9}, capped, []string{"0", "1/1000"}, false, api.OK},
		{[]int{9, 1}, capped, []string{"1", "0"}, true, api.OK},
		{[]int{9, 1}, capped, []string{"1001/1000", "0"}, false, api.OK},
		{[]int{api.MaxAmount}, []api.User{user(1, api.MaxCap, 10)}, []string{"1000"}, true, api.OK},
		{[]int{api.MaxAmount}, []api.User{user(1, api.MaxCap, 9)}, []string{"10001/10"}, false, api.OK},
		{ten, two, nil, false, api.ErrList},
		{ten, two, []string{"1"}, false, api.ErrList},
		{ten, two, []string{"1", "1", "1"}, false, api.ErrList},
		{ten, nil, []string{"0"}, false, api.ErrList},
		{ten, two, []string{"1", ""}, false, api.ErrList},
		{ten, two, []string{"2/4", "1"}, false, api.ErrList},
		{ten, two, []string{"-1", "+1"}, false, api.ErrList},
		{ten, two, []string{nines, "x"}, false, api.ErrList},
		{ten, two, []string{"0", nines + "9"}, false, api.ErrList},
	} {
		if ok, e := fill.Feasible(c.pool, c.users, c.tasks); ok != c.ok || e != c.e {
			t.Errorf("P8: Feasible(%v, %v, %.50q) = %v, %d, want %v, %d", c.pool, c.users, c.tasks, ok, e, c.ok, c.e)
		}
	}
}

func isFeasible(pool []int, users []api.User, tasks []*big.Rat) bool {
	for i, u := range users {
		if tasks[i].Sign() < 0 || tasks[i].Cmp(whole(u.Cap)) > 0 {
			return false
		}
	}
	for k, amount := range pool {
		used := new(big.Rat)
		for i, u := range users {
			used.Add(used, times(tasks[i], u.Demand[k]))
		}
		if used.Cmp(whole(amount)) > 0 {
			return false
		}
	}
	return true
}

func texts(values []*big.Rat) []string {
	var l []string
	for _, x := range values {
		l = append(l, x.RatString())
	}
	return l
}

// moved gives tasks that are about those of the dues: some more, some less.
func moved(r *rand.Rand, tasks []*big.Rat) []*big.Rat {
	var l []*big.Rat
	for _, x := range tasks {
		y := new(big.Rat).Mul(x, big.NewRat(int64(r.Intn(5)), int64(1+r.Intn(4))))
		l = append(l, []*big.Rat{x, x, y, whole(r.Intn(3) - 1)}[r.Intn(4)])
	}
	return l
}

func TestFeasibleDrawn(t *testing.T) {
	r := rand.New(rand.NewSource(7))
	allowed, refused := 0, 0
	for range 4000 {
		pool, users := drawn(r)
		tasks := moved(r, grown(pool, users))
		want := isFeasible(pool, users, tasks)
		if got, e := fill.Feasible(pool, users, texts(tasks)); got != want || e != api.OK {
			t.Fatalf("P8: Feasible(%v, %v, %v) = %v, %d", pool, users, texts(tasks), got, e)
		}
		if want {
			allowed++
		} else {
			refused++
		}
	}
	if allowed < 500 || refused < 500 {
		t.Errorf("%d allowed, %d refused: this tests little", allowed, refused)
	}
}

func TestUseful(t *testing.T) {
	nines := strings.Repeat("9", api.MaxText-2)
	tiny := new(big.Rat)
	tiny.SetString("1/" + nines)
	tiny.Quo(tiny, whole(api.MaxAmount))
	u := user(1, 1000, 3, 1)
	for _, c := range []struct {
		u      api.User
		bundle []string
		want   string
		e      api.Errno
	}{
		{u, []string{"7", "1/2"}, "1/2", api.OK},
		{u, []string{"7", "9"}, "7/3", api.OK},
		{user(1, 2, 3, 1), []string{"7", "9"}, "2", api.OK},
		{user(100, 2, 3, 1), []string{"7", "9"}, "2", api.OK},
		{user(1, 0, 3, 1), []string{"7", "9"}, "0", api.OK},
		{u, []string{"0", "9"}, "0", api.OK},
		{u, []string{"9", "0"}, "0", api.OK},
		{user(1, 9, 0, 2), []string{"0", "9"}, "9/2", api.OK},
		{user(1, 9, 2, 0), []string{"9", "0"}, "9/2", api.OK},
		{user(1, api.MaxCap, 1), []string{"9" + nines}, "1000", api.OK},
		{user(1, api.MaxCap, 1), []string{"2001/2"}, "1000", api.OK},
		{user(1, api.MaxCap, 1), []string{"1999/2"}, "1999/2", api.OK},
		{user(1, 1, 1, 2, 3, 4), []string{"1", "1", "1", "1"}, "1/4", api.OK},
		{user(1, 1, api.MaxAmount), []string{"1/" + nines}, tiny.RatString(), api.OK},
		{u, nil, "", api.ErrList},
		{u, []string{}, "", api.ErrList},
		{user(1, 1, 1, 1, 1, 1, 1), []string{"1", "1", "1", "1", "1"}, "", api.ErrList},
		{u, []string{"1", "01"}, "", api.ErrList},
		{u, []string{"", "1"}, "", api.ErrList},
		{u, []string{"1", "9" + nines + "99"}, "", api.ErrList},
		{u, []string{"1", "-1/3"}, "", api.ErrList},
		{user(1, 1, 1, 0), []string{"1", "-1"}, "", api.ErrList},
		{user(0, -1), []string{"-1"}, "", api.ErrList},
		{user(0, -1), []string{"x"}, "", api.ErrList},
		{user(0, -1), nil, "", api.ErrList},
		{u, []string{"1"}, "", api.ErrUser},
		{u, []string{"1", "1", "1"}, "", api.ErrUser},
		{api.User{}, []string{"1"}, "", api.ErrUser},
		{user(1, 1, 0, 0), []string{"1", "1"}, "", api.ErrUser},
		{user(1, 1, -1), []string{"1"}, "", api.ErrUser},
		{user(1, 1, api.MaxAmount+1), []string{"1"}, "", api.ErrUser},
		{user(0, 1, 1), []string{"1"}, "", api.ErrUser},
		{user(api.MaxWeight+1, 1, 1), []string{"1"}, "", api.ErrUser},
		{user(1, -1, 1), []string{"1"}, "", api.ErrUser},
		{user(1, api.MaxCap+1, 1), []string{"1"}, "", api.ErrUser},
	} {
		if got, e := fill.Useful(c.u, c.bundle); got != c.want || e != c.e {
			t.Errorf("P9: Useful(%v, %.50q) = %.50q, %d, want %.50q, %d", c.u, c.bundle, got, e, c.want, c.e)
		}
	}
	if len(tiny.RatString()) <= api.MaxText {
		t.Error("no answer here is longer than MaxText")
	}
}

func TestUsefulDrawn(t *testing.T) {
	r := rand.New(rand.NewSource(8))
	for range 4000 {
		u := drawnUser(r, 1+r.Intn(api.MaxKinds), api.MaxAmount, api.MaxWeight)
		var bundle []*big.Rat
		want := whole(u.Cap)
		for _, demand := range u.Demand {
			x := big.NewRat(int64(r.Intn(1000000)), int64(1+r.Intn(1000)))
			bundle = append(bundle, x)
			if demand > 0 && new(big.Rat).Quo(x, whole(demand)).Cmp(want) < 0 {
				want.Quo(x, whole(demand))
			}
		}
		if got, e := fill.Useful(u, texts(bundle)); got != want.RatString() || e != api.OK {
			t.Fatalf("P9: Useful(%v, %q) = %q, %d, want %s", u, texts(bundle), got, e, want.RatString())
		}
	}
}
