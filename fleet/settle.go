package fleet

import (
	"portion/api"
	"portion/exact"
	"portion/fill"
)

// settling is a fleet while it settles. The pool and the goals are fixed
// before the first task moves.
type settling struct {
	fleet *Fleet
	pool  amounts
	goals [api.MaxUsers]int
}

// settle ends: each task that is placed for a goal brings a user nearer to it,
// and nobody is taken below its goal again.
func (f *Fleet) settle() {
	s := &settling{fleet: f, pool: f.pool()}
	s.workOutDues()
	s.meetGoals()
	s.fillUp()
	for s.meetGoals() {
		s.fillUp()
	}
}

func (s *settling) workOutDues() {
	f := s.fleet
	var numbers []int
	var users []api.User
	for i, u := range f.users {
		if !u.isThere {
			continue
		}
		asked := f.asked(u)
		numbers = append(numbers, i)
		users = append(users, asked)
	}
	pool := s.pool.list(f.kinds)
	// What a fleet has taken in is within the limits of Solve: no error can be.
	shares, _ := fill.Solve(pool, users)
	for i, share := range shares {
		number := numbers[i]
		f.users[number].due = share.Tasks
		s.goals[number] = floorOf(share.Tasks)
	}
}

// asked gives the user for whom the dues are worked out: nobody is due more
// tasks than it has.
func (f *Fleet) asked(u userState) api.User {
	most := u.tasks()
	if most > u.most {
		most = u.most
	}
	return api.User{Demand: u.demand.list(f.kinds), Weight: u.weight, Cap: most}
}

// floorOf reads what a user is due: at least 0, and no more than MaxTasks.
func floorOf(due string) int {
	digits, _ := exact.Floor(due)
	floor := 0
	for i := 0; i < len(digits); i++ {
		floor = floor*10 + int(digits[i]-'0')
	}
	return floor
}

// meetGoals tells whether it placed any task.
func (s *settling) meetGoals() bool {
	isAny := false
	for s.placeOne() {
		isAny = true
	}
	return isAny
}

func (s *settling) placeOne() bool {
	for i := range s.fleet.users {
		if s.fleet.users[i].running() >= s.goals[i] {
			continue
		}
		if s.place(i) {
			return true
		}
	}
	return false
}

// place places a task of a user that is below its goal, if it can be placed.
// Such a user has one that waits: no goal is above the number of tasks.
func (s *settling) place(user int) bool {
	f := s.fleet
	machine, fits := f.tightest(f.users[user].demand)
	if fits {
		f.start(user, machine)
		return true
	}
	machine, off, isCleared := s.chooseCleared(user)
	if !isCleared {
		return false
	}
	for _, other := range off {
		f.giveWay(other, machine)
	}
	f.start(user, machine)
	return true
}

func (s *settling) fillUp() {
	f := s.fleet
	user, isSome := s.nextToFill()
	for isSome {
		machine, _ := f.tightest(f.users[user].demand)
		f.start(user, machine)
		user, isSome = s.nextToFill()
	}
}

// nextToFill gives the user of the least level of whom a task can be filled
// in; false if there is none.
func (s *settling) nextToFill() (int, bool) {
	next := 0
	least := level{}
	found := false
	for i, u := range s.fleet.users {
		running := u.running()
		if u.waiting < 1 || running >= u.most {
			continue
		}
		_, fits := s.fleet.tightest(u.demand)
		if !fits {
			continue
		}
		own := levelOf(u, running, s.pool)
		if !found || isBelow(own, least) {
			next = i
			least = own
			found = true
		}
	}
	return next, found
}
