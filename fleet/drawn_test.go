package fleet_test

import (
	"math"
	"math/rand"
	"testing"

	"portion/api"
	"portion/fill"
	"portion/fleet"
)

func TestDrawnRunsAgainstASecondReckoning(t *testing.T) {
	r := rand.New(rand.NewSource(1))
	events := map[string]int{}
	for range 1200 {
		d := drawn(r)
		f, second := open(t, d.kinds), &reckoned{kinds: d.kinds, events: events}
		var said []command
		for n := range 40 {
			c := d.next(r, n)
			if r.Intn(12) == 0 {
				c = wrong(r, d.kinds)
			}
			said = append(said, c)
			before := revokedOf(f)
			number, e := c.runOn(f)
			wantNumber, want := c.reckon(second)
			if number != wantNumber || e != want {
				t.Fatalf("P10 to P13: of %d kinds, %v: the last answers %d, %d, want %d, %d", d.kinds, said, number, e, wantNumber, want)
			}
			if got, want := picture(f), second.picture(); got != want {
				t.Fatalf("P14, P15, P17: of %d kinds, %v:\n%swant\n%s", d.kinds, said, got, want)
			}
			seen := look(f, second)
			seen.check(t, before)
			checkAccounts(t, f, second)
			if t.Failed() {
				t.Fatalf("of %d kinds, %v", d.kinds, said)
			}
		}
	}
	for _, event := range []string{"time with room idle", "time with room used", "time behind a user that went", "time behind a machine that went", "machines equally tight", "goals met behind filling up", "machines with more or fewer tasks off", "machines with as many tasks off", "nobody can give way", "equal levels at giving way", "put back", "equal levels at filling up", "a lower level at filling up"} {
		if events[event] < 20 {
			t.Errorf("%s: only %d times; this tests little", event, events[event])
		}
	}
}

// checkAccounts holds all used and idle room against all the room that there
// was.
func checkAccounts(t *testing.T, f *fleet.Fleet, r *reckoned) {
	t.Helper()
	for k := range r.kinds {
		sum, _ := f.Idle(k)
		for u := range r.users {
			n, _ := f.Used(u, k)
			sum += n
		}
		if sum != r.offered[k] {
			t.Errorf("P17: used and idle of kind %d come to %d, the machines to %d", k, sum, r.offered[k])
		}
	}
}

func revokedOf(f *fleet.Fleet) []int {
	var l []int
	for u := range api.MaxUsers {
		n, _ := f.Revoked(u)
		l = append(l, n)
	}
	return l
}

// settled is what P16 speaks of: the sizes and users as they were handed in,
// and what the fleet answers.
type settled struct {
	*reckoned
	run     [][]int // of each user, on each machine
	sum     []int
	waiting []int
	due     []string
	revoked []int
}

func look(f *fleet.Fleet, r *reckoned) *settled {
	s := &settled{reckoned: r, revoked: revokedOf(f)}
	for u := range r.users {
		l := make([]int, len(r.machines))
		for m := range r.machines {
			l[m], _ = f.Running(u, m)
		}
		waiting, _ := f.Waiting(u)
		due, _ := f.Due(u)
		s.run, s.sum = append(s.run, l), append(s.sum, total(l))
		s.waiting, s.due = append(s.waiting, waiting), append(s.due, due)
	}
	return s
}

// check holds the fleet against P16; revoked is how it stood before the last
// command.
func (s *settled) check(t *testing.T, revoked []int) {
	t.Helper()
	s.checkDues(t)
	there := 0
	for m := range s.machines {
		if s.hasMachine(m) {
			there++
			s.checkMachine(t, m)
		}
	}
	for u, o := range s.users {
		if !o.isGone && there == 1 && s.sum[u] < o.goal {
			t.Errorf("P16: with one machine user %d has %d running, its goal is %d", u, s.sum[u], o.goal)
		}
		if !o.isGone && s.revoked[u] > revoked[u] && s.sum[u] < o.goal {
			t.Errorf("P16: tasks of user %d gave way, and %d run, its goal is %d", u, s.sum[u], o.goal)
		}
	}
}

func (s *settled) checkDues(t *testing.T) {
	t.Helper()
	var users []api.User
	var dues []string
	for u, o := range s.users {
		if !o.isGone {
			users = append(users, user(o.Weight, min(o.Cap, s.sum[u]+s.waiting[u]), o.Demand...))
			dues = append(dues, s.due[u])
		}
	}
	if ok, e := fill.Feasible(s.pool(), users, dues); !ok || e != api.OK {
		t.Errorf("P16: the pool %v does not bear the dues %v of %v", s.pool(), dues, users)
	}
}

func (s *settled) checkMachine(t *testing.T, m int) {
	t.Helper()
	for u, o := range s.users {
		room := s.roomWithout(m, -1)
		if len(room) == 0 {
			t.Errorf("P16: machine %d bears too much", m)
		}
		if o.isGone {
			continue
		}
		if s.waiting[u] > 0 && s.sum[u] < o.Cap && bears(room, o.Demand) {
			t.Errorf("P16: a task of user %d waits and fits on machine %d", u, m)
		}
		if s.sum[u] < o.goal && bears(s.roomWithout(m, u), o.Demand) {
			t.Errorf("P16: user %d is below its goal, and others are above theirs on machine %d", u, m)
		}
	}
}

// roomWithout is the room of a machine if for user u all others' tasks above
// their goals went there; with -1 nothing goes. It is empty if the machine
// bears more than its size.
func (s *settled) roomWithout(m int, u int) []int {
	var room []int
	for k, amount := range s.machines[m] {
		for v, o := range s.users {
			stay := s.run[v][m]
			if u >= 0 && v != u {
				stay -= max(0, min(stay, s.sum[v]-o.goal))
			}
			amount -= stay * o.Demand[k]
		}
		if amount < 0 {
			return nil
		}
		room = append(room, amount)
	}
	return room
}

func bears(room []int, demand []int) bool {
	for k, amount := range demand {
		if amount > room[k] {
			return false
		}
	}
	return true
}

// TestRefusalsAndAskingChangeNothing runs the same commands on two fleets; one
// of them is also asked things and handed what it refuses, between the
// commands, and a third fleet is busy with something else.
func TestRefusalsAndAskingChangeNothing(t *testing.T) {
	r := rand.New(rand.NewSource(2))
	for range 150 {
		d, e := drawn(r), drawn(r)
		plain, teased, third := open(t, d.kinds), open(t, d.kinds), open(t, e.kinds)
		for n := range 30 {
			c := d.next(r, n)
			e.next(r, n).runOn(third)
			number, answer := c.runOn(plain)
			for range 3 {
				bad := wrong(r, d.kinds)
				before := picture(teased)
				if n, e := bad.runOn(teased); n != 0 || e == api.OK {
					t.Fatalf("P10: %v answers %d, %d", bad, n, e)
				}
				if picture(teased) != before {
					t.Fatalf("P10: %v is refused and changes something", bad)
				}
			}
			other, again := c.runOn(teased)
			if number != other || answer != again {
				t.Fatalf("P10: %v answers %d, %d, and %d, %d behind what was refused", c, number, answer, other, again)
			}
			if a, b := picture(plain), picture(teased); a != b {
				t.Fatalf("P10: behind %v the fleets differ:\n%s\n%s", c, a, b)
			}
		}
	}
}

func TestFleetsKnowNothingOfEachOther(t *testing.T) {
	a, b := open(t, 1), open(t, 1)
	addMachine(t, a, 0, 10)
	addBusyUser(t, a, 0, user(1, 10, 3), 5)
	answers(t, "Tick", a.Tick(2), api.OK)
	before := picture(a)
	if n := b.Clock(); n != 0 {
		t.Errorf("P10: the clock of another fleet stands at %d", n)
	}
	if _, e := b.Waiting(0); e != api.ErrNone {
		t.Errorf("P10: a user of another fleet is there: %d", e)
	}
	addUser(t, b, 0, user(7, 1, 2))
	addMachine(t, b, 0, 1)
	answers(t, "Submit", b.Submit(0, 9), api.OK)
	answers(t, "Tick", b.Tick(5), api.OK)
	answers(t, "DropMachine", b.DropMachine(0), api.OK)
	answers(t, "DropUser", b.DropUser(0), api.OK)
	if after := picture(a); after != before {
		t.Errorf("P10: one fleet changes another:\n%s\n%s", before, after)
	}
}

func TestEveryCallEndsAtAllNumbers(t *testing.T) {
	numbers := append([]int{0, 1, 5, 6, 7, 8, 40, 41, 100, 1000}, extremes...)
	lists := [][]int{nil, {}, {0}, {1}, {math.MinInt}, {math.MaxInt}, {0, 0}, {math.MaxInt, math.MaxInt}, {0, 0, 0, 0}, make([]int, 10000)}
	for kinds := 1; kinds <= api.MaxKinds; kinds++ {
		f := open(t, kinds)
		for _, l := range lists {
			f.AddMachine(l)
			for _, n := range numbers {
				f.AddUser(user(n, n, l...))
			}
		}
		for _, a := range numbers {
			for _, b := range numbers {
				f.Submit(a, b)
				f.Cancel(a, b)
				f.Finish(a, b)
				f.Running(a, b)
				f.Used(a, b)
				for _, c := range numbers {
					f.Change(a, b, c)
				}
			}
			f.Waiting(a)
			f.Due(a)
			f.Revoked(a)
			f.Tick(a)
			f.Idle(a)
			f.Clock()
			f.DropMachine(a)
			f.DropUser(a)
		}
	}
}
