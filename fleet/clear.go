package fleet

import "portion/api"

// clearing is how it would stand with some tasks taken off one machine. The
// fleet itself stays as it is until a machine has been chosen.
type clearing struct {
	task    amounts // for which the machine is cleared
	room    amounts
	here    [api.MaxUsers]int // tasks that are left on the machine
	running [api.MaxUsers]int // tasks that are left in all
	off     []int             // whose tasks are off, in the order in which they were taken off
}

// chooseCleared gives the machine that is best cleared for a task of a user,
// and the users whose tasks give way there; false if none can be cleared.
func (s *settling) chooseCleared(user int) (int, []int, bool) {
	best := 0
	var fewest []int
	found := false
	for i, m := range s.fleet.machines {
		if !m.isThere {
			continue
		}
		off, ok := s.clearMachine(user, i)
		if ok && (!found || len(off) < len(fewest)) {
			best = i
			fewest = off
			found = true
		}
	}
	return best, fewest, found
}

func (s *settling) clearMachine(user int, machine int) ([]int, bool) {
	c := s.startClearing(user, machine)
	for !c.room.bears(c.task) {
		other, isSome := s.nextOff(c, user)
		if !isSome {
			return nil, false
		}
		c.here[other]--
		c.running[other]--
		c.room = c.room.plus(s.fleet.users[other].demand)
		c.off = append(c.off, other)
	}
	return s.putBack(c), true
}

func (s *settling) startClearing(user int, machine int) *clearing {
	c := &clearing{task: s.fleet.users[user].demand}
	c.room = s.fleet.room(machine)
	for i, u := range s.fleet.users {
		c.here[i] = u.on[machine]
		c.running[i] = u.running()
	}
	return c
}

// nextOff gives the user whose task is taken off next; false if nobody has one
// on the machine that is above its goal.
func (s *settling) nextOff(c *clearing, user int) (int, bool) {
	next := 0
	greatest := level{}
	found := false
	for i, u := range s.fleet.users {
		if i == user || c.here[i] < 1 || c.running[i] <= s.goals[i] {
			continue
		}
		own := levelOf(u, c.running[i], s.pool)
		if !found || isBelow(greatest, own) {
			next = i
			greatest = own
			found = true
		}
	}
	return next, found
}

// putBack gives what stays off when each task whose going was not needed is
// back.
func (s *settling) putBack(c *clearing) []int {
	room := c.room
	var off []int
	for _, other := range c.off {
		left := room.minus(s.fleet.users[other].demand)
		if left.bears(c.task) {
			room = left
		} else {
			off = append(off, other)
		}
	}
	return off
}
