package fleet

import "portion/api"

// machineState is a machine's; of a number that is gone or not given, all 0.
type machineState struct {
	isThere bool
	size    amounts
}

// userState is a user's; of a number that is gone only the accounts are left,
// of one that is not given all is 0.
type userState struct {
	isThere bool
	demand  amounts
	weight  int
	most    int
	waiting int
	on      [api.MaxMachines]int // how many tasks run on each machine
	due     string
	revoked int
	used    amounts // so far
}

func (f *Fleet) hasMachine(number int) bool {
	return number >= 0 && number < len(f.machines) && f.machines[number].isThere
}

func (f *Fleet) hasUser(number int) bool {
	return number >= 0 && number < len(f.users) && f.users[number].isThere
}

// hadUser tells whether a number has been given, also to a user that is gone.
func (f *Fleet) hadUser(number int) bool {
	return number >= 0 && number < f.usersGiven
}

func (f *Fleet) hasKind(kind int) bool {
	return kind >= 0 && kind < f.kinds
}

// running tells how many tasks run in all.
func (u *userState) running() int {
	sum := 0
	for _, n := range u.on {
		sum += n
	}
	return sum
}

func (u *userState) tasks() int {
	return u.waiting + u.running()
}

// pool gives the sizes of all machines together.
func (f *Fleet) pool() amounts {
	var all amounts
	for _, m := range f.machines {
		all = all.plus(m.size)
	}
	return all
}

// room gives what the tasks that run on a machine leave of its size.
func (f *Fleet) room(machine int) amounts {
	room := f.machines[machine].size
	for _, u := range f.users {
		wanted := u.demand.times(u.on[machine])
		room = room.minus(wanted)
	}
	return room
}

// tightest gives the tightest of the machines on which a task fits; false if
// it fits on none.
func (f *Fleet) tightest(task amounts) (int, bool) {
	number := 0
	least := 0
	found := false
	for i, m := range f.machines {
		room := f.room(i)
		if !m.isThere || !room.bears(task) {
			continue
		}
		sum := room.sum()
		if !found || sum < least {
			number = i
			least = sum
			found = true
		}
	}
	return number, found
}

// start lets a task of a user that waits run on a machine.
func (f *Fleet) start(user int, machine int) {
	f.users[user].waiting--
	f.users[user].on[machine]++
}

// giveWay lets a task of a user that runs on a machine wait again.
func (f *Fleet) giveWay(user int, machine int) {
	f.users[user].on[machine]--
	f.users[user].waiting++
	f.users[user].revoked++
}

// account adds n units of time to the accounts. Nothing moves while time goes
// by, so all n are alike.
func (f *Fleet) account(n int) {
	idle := f.pool()
	for i := range f.users {
		u := &f.users[i]
		running := u.running()
		wanted := u.demand.times(running)
		idle = idle.minus(wanted)
		wanted = wanted.times(n)
		u.used = u.used.plus(wanted)
	}
	idle = idle.times(n)
	f.idle = f.idle.plus(idle)
}
