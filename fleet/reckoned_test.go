package fleet_test

import (
	"cmp"
	"math/big"
	"slices"

	"portion/api"
	"portion/fill"
)

// A second reckoning of P10 to P15 and P17, by the document's words: every task
// is a thing of its own, a machine is cleared on a copy of the whole, and time
// goes by one unit at a time.

type reckoned struct {
	kinds    int
	machines [][]int // nil if gone
	users    []*owner
	clock    int
	idle     [api.MaxKinds]int
	offered  [api.MaxKinds]int // the pool, over all units of time
	events   map[string]int    // how often a rule came to bear
}

type owner struct {
	api.User
	isGone  bool
	tasks   []int // where each is: a machine, or -1 while it waits
	due     *big.Rat
	goal    int
	revoked int
	used    [api.MaxKinds]int
}

func (o *owner) count(where int) int {
	n := 0
	for _, place := range o.tasks {
		if place == where {
			n++
		}
	}
	return n
}

func (o *owner) running() int { return len(o.tasks) - o.count(-1) }

func (o *owner) move(from int, to int) { o.tasks[slices.Index(o.tasks, from)] = to }

func (o *owner) remove(from int) {
	i := slices.Index(o.tasks, from)
	o.tasks = slices.Delete(o.tasks, i, i+1)
}

func (r *reckoned) copied() *reckoned {
	c := &reckoned{kinds: r.kinds, machines: r.machines, events: r.events}
	for _, o := range r.users {
		twin := *o
		twin.tasks = slices.Clone(o.tasks)
		c.users = append(c.users, &twin)
	}
	return c
}

func (r *reckoned) hasUser(n int) bool {
	return 0 <= n && n < len(r.users) && !r.users[n].isGone
}

func (r *reckoned) hadUser(n int) bool { return 0 <= n && n < len(r.users) }

func (r *reckoned) hasKind(k int) bool { return 0 <= k && k < r.kinds }

func (r *reckoned) hasMachine(n int) bool {
	return 0 <= n && n < len(r.machines) && r.machines[n] != nil
}

func (r *reckoned) pool() []int {
	pool := make([]int, r.kinds)
	for _, size := range r.machines {
		for k, amount := range size {
			pool[k] += amount
		}
	}
	return pool
}

func (r *reckoned) room(m int) []int {
	room := slices.Clone(r.machines[m])
	for _, o := range r.users {
		for _, place := range o.tasks {
			if place != m {
				continue
			}
			for k, amount := range o.Demand {
				room[k] -= amount
			}
		}
	}
	return room
}

// passUnit looks at what stands there while one unit of time goes by: all room
// that is left on a machine is idle, and every task that runs uses its own.
func (r *reckoned) passUnit() {
	r.clock++
	r.noteTime()
	for k, amount := range r.pool() {
		r.offered[k] += amount
	}
	for m := range r.machines {
		if !r.hasMachine(m) {
			continue
		}
		for k, amount := range r.room(m) {
			r.idle[k] += amount
		}
	}
	for _, o := range r.users {
		for range o.running() {
			for k, amount := range o.Demand {
				o.used[k] += amount
			}
		}
	}
}

func (r *reckoned) noteTime() {
	for m, size := range r.machines {
		if size == nil {
			r.events["time behind a machine that went"]++
		} else if slices.Max(r.room(m)) > 0 {
			r.events["time with room idle"]++
		}
	}
	for _, o := range r.users {
		if o.isGone && slices.Max(o.used[:]) > 0 {
			r.events["time behind a user that went"]++
		}
		if o.running() > 0 {
			r.events["time with room used"]++
		}
	}
}

func (r *reckoned) fits(u int, m int) bool {
	for k, amount := range r.room(m) {
		if r.users[u].Demand[k] > amount {
			return false
		}
	}
	return true
}

func (r *reckoned) level(u int) *big.Rat {
	level := new(big.Rat)
	n := r.users[u].running()
	if n == 0 {
		return level
	}
	for k, amount := range r.pool() {
		if r.users[u].Demand[k] == 0 {
			continue
		}
		part := big.NewRat(int64(n*r.users[u].Demand[k]), int64(amount*r.users[u].Weight))
		if part.Cmp(level) > 0 {
			level = part
		}
	}
	return level
}

// fitting gives the machines on which a task of u fits, the tightest first.
func (r *reckoned) fitting(u int) []int {
	var l []int
	for m := range r.machines {
		if r.hasMachine(m) && r.fits(u, m) {
			l = append(l, m)
		}
	}
	slices.SortStableFunc(l, func(a, b int) int { return cmp.Compare(total(r.room(a)), total(r.room(b))) })
	if len(l) > 1 && total(r.room(l[0])) == total(r.room(l[1])) {
		r.events["machines equally tight"]++
	}
	return l
}

func total(list []int) int {
	sum := 0
	for _, amount := range list {
		sum += amount
	}
	return sum
}

func (r *reckoned) settle() {
	r.reckonDues()
	r.meetGoals()
	r.fillUp()
	for r.meetGoals() > 0 {
		r.events["goals met behind filling up"]++
		r.fillUp()
	}
}

func (r *reckoned) reckonDues() {
	var there []*owner
	var asked []api.User
	for _, o := range r.users {
		if o.isGone {
			continue
		}
		u := o.User
		u.Cap = min(u.Cap, len(o.tasks))
		there, asked = append(there, o), append(asked, u)
	}
	shares, _ := fill.Solve(r.pool(), asked)
	for i, o := range there {
		o.due, _ = new(big.Rat).SetString(shares[i].Tasks)
		o.goal = int(new(big.Int).Div(o.due.Num(), o.due.Denom()).Int64())
	}
}

func (r *reckoned) meetGoals() int {
	placed := 0
	for u := 0; u < len(r.users); u++ {
		if r.hasUser(u) && r.users[u].running() < r.users[u].goal && r.placed(u) {
			placed++
			u = -1
		}
	}
	return placed
}

func (r *reckoned) placed(u int) bool {
	if l := r.fitting(u); len(l) > 0 {
		r.users[u].move(-1, l[0])
		return true
	}
	best, fewest := -1, []int(nil)
	for m := range r.machines {
		if !r.hasMachine(m) {
			continue
		}
		off, ok := r.copied().cleared(u, m)
		if ok && best >= 0 && len(off) != len(fewest) {
			r.events["machines with more or fewer tasks off"]++
		}
		if ok && best >= 0 && len(off) == len(fewest) {
			r.events["machines with as many tasks off"]++
		}
		if ok && (best < 0 || len(off) < len(fewest)) {
			best, fewest = m, off
		}
	}
	if best < 0 {
		r.events["nobody can give way"]++
		return false
	}
	for _, v := range fewest {
		r.users[v].move(best, -1)
		r.users[v].revoked++
	}
	r.users[u].move(-1, best)
	return true
}

// cleared takes the tasks off; it is called on a copy.
func (r *reckoned) cleared(u int, m int) ([]int, bool) {
	var off []int
	for !r.fits(u, m) {
		var l []int
		for v, o := range r.users {
			if v != u && o.count(m) > 0 && o.running() > o.goal {
				l = append(l, v)
			}
		}
		if len(l) == 0 {
			return nil, false
		}
		slices.SortStableFunc(l, func(a, b int) int { return r.level(b).Cmp(r.level(a)) })
		if len(l) > 1 && r.level(l[0]).Cmp(r.level(l[1])) == 0 {
			r.events["equal levels at giving way"]++
		}
		r.users[l[0]].move(m, -1)
		off = append(off, l[0])
	}
	var stay []int
	for _, v := range off {
		r.users[v].move(-1, m)
		if r.fits(u, m) {
			r.events["put back"]++
			continue
		}
		r.users[v].move(m, -1)
		stay = append(stay, v)
	}
	return stay, true
}

func (r *reckoned) fillUp() {
	for {
		var l []int
		for u, o := range r.users {
			if !o.isGone && o.count(-1) > 0 && o.running() < o.Cap && len(r.fitting(u)) > 0 {
				l = append(l, u)
			}
		}
		if len(l) == 0 {
			return
		}
		slices.SortStableFunc(l, func(a, b int) int { return r.level(a).Cmp(r.level(b)) })
		if len(l) > 1 && r.level(l[0]).Cmp(r.level(l[1])) == 0 {
			r.events["equal levels at filling up"]++
		}
		if len(l) > 1 && l[0] != slices.Min(l) {
			r.events["a lower level at filling up"]++
		}
		r.users[l[0]].move(-1, r.fitting(l[0])[0])
	}
}
