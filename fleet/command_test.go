package fleet_test

import (
	"fmt"
	"math/rand"
	"slices"
	"strings"

	"portion/api"
	"portion/fleet"
)

// command is a call that changes a fleet, with all that it may be handed.
type command struct {
	name string
	a    int
	b    int
	c    int
	list []int
}

func (c command) String() string {
	return fmt.Sprint(c.name, " ", c.a, " ", c.b, " ", c.c, " ", c.list)
}

func (c command) runOn(f *fleet.Fleet) (int, api.Errno) {
	switch c.name {
	case "AddMachine":
		return f.AddMachine(c.list)
	case "DropMachine":
		return 0, f.DropMachine(c.a)
	case "AddUser":
		return f.AddUser(user(c.a, c.b, c.list...))
	case "DropUser":
		return 0, f.DropUser(c.a)
	case "Change":
		return 0, f.Change(c.a, c.b, c.c)
	case "Submit":
		return 0, f.Submit(c.a, c.b)
	case "Cancel":
		return 0, f.Cancel(c.a, c.b)
	case "Tick":
		return 0, f.Tick(c.a)
	}
	return 0, f.Finish(c.a, c.b)
}

// reckon is the same by the second reckoning.
func (c command) reckon(r *reckoned) (int, api.Errno) {
	if c.name == "Tick" {
		return 0, c.tick(r)
	}
	n, e := c.begin(r)
	if e == api.OK {
		r.settle()
	}
	return n, e
}

func (c command) tick(r *reckoned) api.Errno {
	if outside(c.a, 1, 1000) {
		return api.ErrCount
	}
	if r.clock+c.a > 1000000 {
		return api.ErrClock
	}
	for range c.a {
		r.passUnit()
	}
	return api.OK
}

func (c command) begin(r *reckoned) (int, api.Errno) {
	switch c.name {
	case "AddMachine":
		return c.addMachine(r)
	case "AddUser":
		return c.addUser(r)
	case "DropMachine":
		return 0, c.dropMachine(r)
	}
	if !r.hasUser(c.a) || c.name == "Finish" && !r.hasMachine(c.b) {
		return 0, api.ErrNone
	}
	return 0, c.touch(r.users[c.a])
}

func outside(n int, low int, high int) bool { return n < low || n > high }

func (c command) addMachine(r *reckoned) (int, api.Errno) {
	if len(c.list) != r.kinds || outside(slices.Min(c.list), 0, 1000) || outside(slices.Max(c.list), 0, 1000) {
		return 0, api.ErrPool
	}
	if len(r.machines) == 8 {
		return 0, api.ErrFull
	}
	r.machines = append(r.machines, slices.Clone(c.list))
	return len(r.machines) - 1, api.OK
}

func (c command) addUser(r *reckoned) (int, api.Errno) {
	if len(c.list) != r.kinds || outside(slices.Min(c.list), 0, 10000) || outside(slices.Max(c.list), 1, 10000) || outside(c.a, 1, 100) || outside(c.b, 0, 1000) {
		return 0, api.ErrUser
	}
	if len(r.users) == 6 {
		return 0, api.ErrFull
	}
	r.users = append(r.users, &owner{User: user(c.a, c.b, slices.Clone(c.list)...)})
	return len(r.users) - 1, api.OK
}

func (c command) dropMachine(r *reckoned) api.Errno {
	if !r.hasMachine(c.a) {
		return api.ErrNone
	}
	for _, o := range r.users {
		for o.count(c.a) > 0 {
			o.move(c.a, -1)
		}
	}
	r.machines[c.a] = nil
	return api.OK
}

func (c command) touch(o *owner) api.Errno {
	switch c.name {
	case "DropUser":
		o.isGone, o.tasks = true, nil
	case "Change":
		if outside(c.b, 1, 100) || outside(c.c, 0, 1000) {
			return api.ErrUser
		}
		o.Weight, o.Cap = c.b, c.c
	case "Submit":
		if outside(c.b, 1, 40-len(o.tasks)) {
			return api.ErrCount
		}
		o.tasks = append(o.tasks, slices.Repeat([]int{-1}, c.b)...)
	case "Cancel":
		if outside(c.b, 1, o.count(-1)) {
			return api.ErrCount
		}
		for range c.b {
			o.remove(-1)
		}
	case "Finish":
		if o.count(c.b) == 0 {
			return api.ErrCount
		}
		o.remove(c.b)
	}
	return api.OK
}

// picture has the form of that of a fleet.
func (r *reckoned) picture() string {
	var b strings.Builder
	for u := -1; u <= api.MaxUsers; u++ {
		for m := -1; m <= api.MaxMachines; m++ {
			n, e := 0, api.ErrNone
			if r.hasUser(u) && r.hasMachine(m) {
				n, e = r.users[u].count(m), api.OK
			}
			fmt.Fprint(&b, n, ",", e, " ")
		}
		w, d, e := 0, "", api.ErrNone
		if r.hasUser(u) {
			w, d, e = r.users[u].count(-1), r.users[u].due.RatString(), api.OK
		}
		n, g := 0, api.ErrNone
		if r.hadUser(u) {
			n, g = r.users[u].revoked, api.OK
		}
		fmt.Fprintln(&b, w, e, d, e, n, g)
		for k := -1; k <= api.MaxKinds; k++ {
			n, e := 0, api.ErrNone
			if r.hadUser(u) && r.hasKind(k) {
				n, e = r.users[u].used[k], api.OK
			}
			fmt.Fprint(&b, n, ",", e, " ")
		}
	}
	for k := -1; k <= api.MaxKinds; k++ {
		n, e := 0, api.ErrNone
		if r.hasKind(k) {
			n, e = r.idle[k], api.OK
		}
		fmt.Fprint(&b, n, ",", e, " ")
	}
	fmt.Fprintln(&b, r.clock)
	return b.String()
}

// drawing says of what kind the commands of one run are.
type drawing struct {
	kinds    int
	machines int // that are added, at most
	size     int
	demand   int
	weight   int
	tasks    int // submitted at once
	alike    bool
}

// drawn leans towards fleets that are too small for their users.
func drawn(r *rand.Rand) drawing {
	d := drawing{
		kinds:    []int{1, 1, 2, 2, 3, 4}[r.Intn(6)],
		machines: []int{1, 2, 3, 4, 9}[r.Intn(5)],
		demand:   []int{2, 4, 6, 12, 300}[r.Intn(5)],
		weight:   []int{1, 4, 100}[r.Intn(3)],
		tasks:    []int{2, 8, 40}[r.Intn(3)],
	}
	d.size = min(api.MaxSize, d.demand*(1+r.Intn(6)))
	d.alike = r.Intn(3) == 0
	return d
}

// user draws one; where users are alike, levels are often the same.
func (d drawing) user(r *rand.Rand) command {
	c := command{name: "AddUser", a: 1 + r.Intn(d.weight), b: d.most(r), list: d.amounts(r, d.demand)}
	if d.alike {
		c.a, c.list = 1, slices.Repeat([]int{1 + r.Intn(2)}, d.kinds)
	}
	return c
}

// amounts are seldom 0, but never all.
func (d drawing) amounts(r *rand.Rand, most int) []int {
	l := make([]int, d.kinds)
	for k := range l {
		l[k] = r.Intn(most+1) * min(1, r.Intn(6))
	}
	l[r.Intn(d.kinds)] = 1 + r.Intn(most)
	return l
}

// sizes are mostly such that some tasks fit.
func (d drawing) sizes(r *rand.Rand) []int {
	l := d.amounts(r, d.size)
	for k := range l {
		if r.Intn(8) > 0 {
			l[k] = min(api.MaxSize, l[k]+d.demand*2/3)
		}
	}
	return l
}

func (d drawing) most(r *rand.Rand) int {
	return []int{r.Intn(20), api.MaxCap, api.MaxCap, api.MaxCap}[r.Intn(4)]
}

// next draws a command that is mostly fine; number n of a run.
func (d drawing) next(r *rand.Rand, n int) command {
	u, m := r.Intn(min(api.MaxUsers, 3+n/6)), r.Intn(min(d.machines, api.MaxMachines))
	switch c := r.Intn(48); {
	case n < d.machines && n < 3 || c < 2 && n > d.machines:
		return command{name: "AddMachine", list: d.sizes(r)}
	case n < 6 || c < 4:
		return d.user(r)
	case c < 5 && n > 20:
		return command{name: "DropMachine", a: m}
	case c < 6 && n > 20:
		return command{name: "DropUser", a: u}
	case c < 14:
		return command{name: "Change", a: u, b: 1 + r.Intn(d.weight), c: d.most(r)}
	case c < 26:
		return command{name: "Submit", a: u, b: 1 + r.Intn(d.tasks)}
	case c < 28:
		return command{name: "Cancel", a: u, b: 1 + r.Intn(3)}
	case c < 36:
		return command{name: "Tick", a: 1 + r.Intn(5)}
	}
	return command{name: "Finish", a: u, b: m}
}

// wrong draws a command that is refused, whatever the fleet of so many kinds
// is like.
func wrong(r *rand.Rand, kinds int) command {
	none := append([]int{api.MaxMachines, api.MaxMachines + 1}, extremes...)
	n := none[r.Intn(len(none))]
	ones := slices.Repeat([]int{1}, kinds)
	bad := [][]int{nil, ones[1:], append(slices.Clone(ones), 1), append(slices.Clone(ones[1:]), -1), append(slices.Clone(ones[1:]), 10001)}[r.Intn(5)]
	switch r.Intn(11) {
	case 0:
		return command{name: "AddMachine", list: bad}
	case 1:
		return command{name: "DropMachine", a: n}
	case 2:
		return command{name: "AddUser", a: 1, b: 1, list: bad}
	case 3:
		return command{name: "AddUser", a: []int{0, 101}[r.Intn(2)], b: 1, list: ones}
	case 4:
		return command{name: "DropUser", a: []int{n, api.MaxUsers}[r.Intn(2)]}
	case 5:
		return command{name: "Change", a: r.Intn(6), b: 1, c: []int{-1, 1001}[r.Intn(2)]}
	case 6:
		return command{name: "Submit", a: r.Intn(6), b: []int{0, -1, 41}[r.Intn(3)]}
	case 7:
		return command{name: "Cancel", a: r.Intn(6), b: []int{0, -1, 41}[r.Intn(3)]}
	case 8:
		return command{name: "Finish", a: n, b: 0}
	case 9:
		return command{name: "Tick", a: []int{0, api.MaxTick + 1, extremes[r.Intn(len(extremes))]}[r.Intn(3)]}
	}
	return command{name: "Finish", a: r.Intn(6), b: n}
}
