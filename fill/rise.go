package fill

import (
	"portion/api"
	"portion/ratio"
)

// filling is where the users stand when the level has risen so far.
type filling struct {
	users  []api.User
	room   []ratio.Fraction // the pool's amounts
	level  ratio.Fraction   // of the users that grow
	rates  []ratio.Fraction // tasks by which a user grows while the level rises by 1; 0 if it is stopped
	tasks  []ratio.Fraction
	levels []ratio.Fraction
}

// start needs not stop anybody: who wants a kind of which there is 0 has the
// rate 0, and the first rise, by 0, stops those whose cap is 0.
func start(pool []int, users []api.User) *filling {
	s := &filling{users: users}
	s.room = wholes(pool)
	s.level = ratio.Whole(0)
	s.rates = make([]ratio.Fraction, len(users))
	for i, u := range users {
		s.rates[i] = rateOf(s.room, u)
	}
	s.tasks = zeros(len(users))
	s.levels = zeros(len(users))
	return s
}

func rateOf(room []ratio.Fraction, u api.User) ratio.Fraction {
	counts := enoughFor(room, u)
	all, _ := least(counts)
	weight := ratio.Whole(u.Weight)
	return ratio.Multiply(all, weight)
}

// rise lets the level rise until something stops a user.
func (s *filling) rise() {
	steps := s.steps()
	step, isSome := least(steps)
	if !isSome {
		return
	}
	s.level = ratio.Add(s.level, step)
	for i, rate := range s.rates {
		if isZero(rate) {
			continue
		}
		growth := ratio.Multiply(rate, step)
		s.tasks[i] = ratio.Add(s.tasks[i], growth)
		s.levels[i] = s.level
	}
	s.stop()
}

// steps tells by how much the level would have to rise for each cap of a user
// that grows to be reached, and for each kind that such a user wants to be
// used up. There is none if nobody grows.
func (s *filling) steps() []ratio.Fraction {
	var steps []ratio.Fraction
	for i, u := range s.users {
		most := ratio.Whole(u.Cap)
		left := ratio.Subtract(most, s.tasks[i])
		step, grows := ratio.Divide(left, s.rates[i])
		if grows {
			steps = append(steps, step)
		}
	}
	for kind, amount := range s.room {
		used := inAll(s.users, s.tasks, kind)
		left := ratio.Subtract(amount, used)
		speed := inAll(s.users, s.rates, kind)
		step, grows := ratio.Divide(left, speed)
		if grows {
			steps = append(steps, step)
		}
	}
	return steps
}

// stop stops the users whose cap is reached or who want a kind that is used up.
func (s *filling) stop() {
	usedUp := s.usedUp()
	for i, u := range s.users {
		isFull := s.isAtCap(i)
		if isFull || wantsOneOf(u, usedUp) {
			s.rates[i] = ratio.Whole(0)
		}
	}
}

func (s *filling) usedUp() []bool {
	usedUp := make([]bool, len(s.room))
	for kind, amount := range s.room {
		used := inAll(s.users, s.tasks, kind)
		usedUp[kind] = ratio.Compare(used, amount) == 0
	}
	return usedUp
}

func (s *filling) isAtCap(i int) bool {
	most := ratio.Whole(s.users[i].Cap)
	return ratio.Compare(s.tasks[i], most) == 0
}

func wantsOneOf(u api.User, kinds []bool) bool {
	for kind, amount := range u.Demand {
		if amount > 0 && kinds[kind] {
			return true
		}
	}
	return false
}

func isZero(value ratio.Fraction) bool {
	zero := ratio.Whole(0)
	return ratio.Compare(value, zero) == 0
}

func (s *filling) shares() []api.Share {
	usedUp := s.usedUp()
	shares := make([]api.Share, len(s.users))
	for i := range s.users {
		shares[i].Tasks = s.tasks[i].Text()
		shares[i].Level = s.levels[i].Text()
		shares[i].Stop = s.stopOf(i, usedUp)
	}
	return shares
}

// stopOf answers -1 for a cap that is reached, whatever else stops the user.
// Of the others some kind is always found: the one at which they stopped.
func (s *filling) stopOf(i int, usedUp []bool) int {
	if s.isAtCap(i) {
		return -1
	}
	for kind, amount := range s.users[i].Demand {
		if amount > 0 && usedUp[kind] && s.isHighest(i, kind) {
			return kind
		}
	}
	return -1
}

// isHighest tells whether no user that wants the kind has a greater level.
func (s *filling) isHighest(i int, kind int) bool {
	for j, u := range s.users {
		if u.Demand[kind] > 0 && ratio.Compare(s.levels[j], s.levels[i]) > 0 {
			return false
		}
	}
	return true
}
