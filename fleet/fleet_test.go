package fleet_test

import (
	"fmt"
	"math"
	"strings"
	"testing"

	"portion/api"
	"portion/fleet"
)

func open(t *testing.T, kinds int) *fleet.Fleet {
	t.Helper()
	f, e := fleet.New(kinds)
	if f == nil || e != api.OK {
		t.Fatalf("P10: New(%d) = %v, %d", kinds, f, e)
	}
	return f
}

func addMachine(t *testing.T, f *fleet.Fleet, want int, size ...int) {
	t.Helper()
	if n, e := f.AddMachine(size); n != want || e != api.OK {
		t.Fatalf("P11: AddMachine(%v) = %d, %d, want %d", size, n, e, want)
	}
}

func user(weight int, most int, demand ...int) api.User {
	return api.User{Demand: demand, Weight: weight, Cap: most}
}

func addUser(t *testing.T, f *fleet.Fleet, want int, u api.User) {
	t.Helper()
	if n, e := f.AddUser(u); n != want || e != api.OK {
		t.Fatalf("P12: AddUser(%v) = %d, %d, want %d", u, n, e, want)
	}
}

// addBusyUser adds a user with tasks that wait.
func addBusyUser(t *testing.T, f *fleet.Fleet, want int, u api.User, tasks int) {
	t.Helper()
	addUser(t, f, want, u)
	answers(t, "Submit", f.Submit(want, tasks), api.OK)
}

func answers(t *testing.T, call string, got api.Errno, want api.Errno) {
	t.Helper()
	if got != want {
		t.Errorf("P10 to P13: %s answers %d, want %d", call, got, want)
	}
}

// stands looks at all that can be asked of a user that is there; running is of
// the machines from 0 on, -1 for one that is gone.
func stands(t *testing.T, when string, f *fleet.Fleet, user int, due string, waiting int, revoked int, running ...int) {
	t.Helper()
	for m, want := range running {
		n, e := f.Running(user, m)
		if want < 0 && (n != 0 || e != api.ErrNone) || want >= 0 && (n != want || e != api.OK) {
			t.Errorf("P14, P15: %s: Running(%d, %d) = %d, %d, want %d", when, user, m, n, e, want)
		}
	}
	if n, e := f.Waiting(user); n != waiting || e != api.OK {
		t.Errorf("P14, P15: %s: Waiting(%d) = %d, %d, want %d", when, user, n, e, waiting)
	}
	if s, e := f.Due(user); s != due || e != api.OK {
		t.Errorf("P14, P15: %s: Due(%d) = %q, %d, want %s", when, user, s, e, due)
	}
	if n, e := f.Revoked(user); n != revoked || e != api.OK {
		t.Errorf("P14, P15: %s: Revoked(%d) = %d, %d, want %d", when, user, n, e, revoked)
	}
}

// picture is all that a fleet answers of P14 and P17, also of numbers that are
// none.
func picture(f *fleet.Fleet) string {
	var b strings.Builder
	for u := -1; u <= api.MaxUsers; u++ {
		for m := -1; m <= api.MaxMachines; m++ {
			n, e := f.Running(u, m)
			fmt.Fprint(&b, n, ",", e, " ")
		}
		w, ew := f.Waiting(u)
		d, ed := f.Due(u)
		r, er := f.Revoked(u)
		fmt.Fprintln(&b, w, ew, d, ed, r, er)
		for k := -1; k <= api.MaxKinds; k++ {
			n, e := f.Used(u, k)
			fmt.Fprint(&b, n, ",", e, " ")
		}
	}
	for k := -1; k <= api.MaxKinds; k++ {
		n, e := f.Idle(k)
		fmt.Fprint(&b, n, ",", e, " ")
	}
	fmt.Fprintln(&b, f.Clock())
	return b.String()
}

var extremes = []int{math.MinInt, math.MinInt + 1, -1, math.MaxInt - 1, math.MaxInt}

func TestNew(t *testing.T) {
	for kinds := 1; kinds <= api.MaxKinds; kinds++ {
		f := open(t, kinds)
		if n := f.Clock(); n != 0 {
			t.Errorf("P10: the clock stands at %d", n)
		}
		for number := -1; number <= 1; number++ {
			answers(t, "DropMachine", f.DropMachine(number), api.ErrNone)
			answers(t, "DropUser", f.DropUser(number), api.ErrNone)
		}
		demand := make([]int, kinds)
		demand[kinds-1] = 1
		addMachine(t, f, 0, make([]int, kinds)...)
		addUser(t, f, 0, user(1, 0, demand...))
	}
	for _, kinds := range append([]int{0, api.MaxKinds + 1}, extremes...) {
		if f, e := fleet.New(kinds); f != nil || e != api.ErrPool {
			t.Errorf("P10: New(%d) = %v, %d", kinds, f, e)
		}
	}
}

func TestNumbersAreGivenOnce(t *testing.T) {
	f := open(t, 1)
	for number := range api.MaxMachines {
		addMachine(t, f, number, 5)
		if number%3 != 1 {
			answers(t, "DropMachine", f.DropMachine(number), api.OK)
			answers(t, "DropMachine again", f.DropMachine(number), api.ErrNone)
		}
	}
	for number := range api.MaxUsers {
		addUser(t, f, number, user(1, 1, 1))
		if number%3 != 1 {
			answers(t, "DropUser", f.DropUser(number), api.OK)
			answers(t, "DropUser again", f.DropUser(number), api.ErrNone)
		}
	}
	if n, e := f.AddMachine([]int{5}); n != 0 || e != api.ErrFull {
		t.Errorf("P11: AddMachine without a number left = %d, %d", n, e)
	}
	if n, e := f.AddUser(user(1, 1, 1)); n != 0 || e != api.ErrFull {
		t.Errorf("P12: AddUser without a number left = %d, %d", n, e)
	}
	if n, e := f.AddMachine([]int{api.MaxSize + 1}); n != 0 || e != api.ErrPool {
		t.Errorf("P11: the size comes first: %d, %d", n, e)
	}
	if n, e := f.AddUser(user(0, 1, 1)); n != 0 || e != api.ErrUser {
		t.Errorf("P12: the user comes first: %d, %d", n, e)
	}
	answers(t, "Submit", f.Submit(1, 1), api.OK)
	stands(t, "one of each", f, 1, "1", 0, 0, -1, 1, -1, -1, 0, -1, -1, 0)
}

func TestMachines(t *testing.T) {
	f := open(t, 2)
	for _, size := range [][]int{nil, {}, {1}, {1, 1, 1}, {-1, 1}, {1, -1}, {api.MaxSize + 1, 1}, {1, api.MaxSize + 1}, {math.MinInt, 1}, {1, math.MaxInt}, {0, 0, 0, 0, 0}} {
		if n, e := f.AddMachine(size); n != 0 || e != api.ErrPool {
			t.Errorf("P11: AddMachine(%v) = %d, %d", size, n, e)
		}
	}
	addMachine(t, f, 0, 0, 0)
	addBusyUser(t, f, 0, user(1, 1000, 0, 400), 5)
	stands(t, "a machine of size 0", f, 0, "0", 5, 0, 0)
	addMachine(t, f, 1, 0, api.MaxSize)
	stands(t, "the greatest size", f, 0, "5/2", 3, 0, 0, 2)
	addMachine(t, f, 2, api.MaxSize, 399)
	stands(t, "too small by 1", f, 0, "1399/400", 3, 0, 0, 2, 0)
	for _, machine := range append([]int{3, api.MaxMachines}, extremes...) {
		answers(t, "DropMachine", f.DropMachine(machine), api.ErrNone)
	}
	answers(t, "DropMachine", f.DropMachine(0), api.OK)
	stands(t, "an empty machine goes", f, 0, "1399/400", 3, 0, -1, 2, 0)
	answers(t, "DropMachine", f.DropMachine(1), api.OK)
	stands(t, "a machine with tasks goes", f, 0, "399/400", 5, 0, -1, -1, 0)
	answers(t, "DropMachine", f.DropMachine(2), api.OK)
	stands(t, "the last machine goes", f, 0, "0", 5, 0, -1, -1, -1)
	addMachine(t, f, 3, 0, 800)
	stands(t, "a machine behind the last", f, 0, "2", 3, 0, -1, -1, -1, 2)
}

func TestTasksOfAMachineThatGoesRunElsewhere(t *testing.T) {
	f := open(t, 1)
	addMachine(t, f, 0, 6)
	addBusyUser(t, f, 0, user(1, 1000, 2), 3)
	addMachine(t, f, 1, 4)
	stands(t, "two machines", f, 0, "3", 0, 0, 3, 0)
	answers(t, "DropMachine", f.DropMachine(0), api.OK)
	stands(t, "one is left", f, 0, "2", 1, 0, -1, 2)
}

func TestAllMachinesAndTasksAtTheirLimits(t *testing.T) {
	f := open(t, api.MaxKinds)
	for m := range api.MaxMachines {
		addMachine(t, f, m, 1000, 1000, 1000, 1000)
	}
	for u := range api.MaxUsers {
		addBusyUser(t, f, u, user(api.MaxWeight, api.MaxCap, 1, 1, 1, 1), api.MaxTasks)
		stands(t, "room for all", f, u, "40", 0, 0, 40, 0, 0, 0, 0, 0, 0, 0)
		answers(t, "Submit", f.Submit(u, 1), api.ErrCount)
	}
	g := open(t, 1)
	for m := range api.MaxMachines {
		addMachine(t, g, m, 1000)
	}
	addBusyUser(t, g, 0, user(1, 1000, api.MaxAmount), api.MaxTasks)
	stands(t, "a task larger than all machines", g, 0, "4/5", 40, 0, 0, 0, 0, 0, 0, 0, 0, 0)
	addBusyUser(t, g, 1, user(1, 1000, 2000), api.MaxTasks)
	stands(t, "a goal that no machine can bear", g, 1, "2", 40, 0, 0, 0, 0, 0, 0, 0, 0, 0)
	addBusyUser(t, g, 2, user(1, 1000, 1000), api.MaxTasks)
	stands(t, "tasks as large as a machine", g, 2, "8/3", 32, 0, 1, 1, 1, 1, 1, 1, 1, 1)
}

func TestUsers(t *testing.T) {
	f := open(t, 2)
	for _, u := range []api.User{{}, user(1, 1), user(1, 1, 1), user(1, 1, 1, 1, 1), user(1, 1, 0, 0), user(1, 1, 1, -1), user(1, 1, -1, 1), user(1, 1, 1, api.MaxAmount+1), user(1, 1, math.MaxInt, 1), user(0, 1, 1, 1), user(-1, 1, 1, 1), user(api.MaxWeight+1, 1, 1, 1), user(math.MinInt, 1, 1, 1), user(1, -1, 1, 1), user(1, api.MaxCap+1, 1, 1), user(1, math.MaxInt, 1, 1), user(1, math.MinInt, 1, 1)} {
		if n, e := f.AddUser(u); n != 0 || e != api.ErrUser {
			t.Errorf("P12: AddUser(%v) = %d, %d", u, n, e)
		}
	}
	addMachine(t, f, 0, 10, 10)
	addUser(t, f, 0, user(1, 0, 1, 0))
	stands(t, "no tasks", f, 0, "0", 0, 0, 0)
	answers(t, "Submit", f.Submit(0, 7), api.OK)
	stands(t, "a cap of 0", f, 0, "0", 7, 0, 0)
	addBusyUser(t, f, 1, user(api.MaxWeight, api.MaxCap, 2, 1), 5)
	stands(t, "weight and cap at their limits", f, 1, "5", 0, 0, 5)
	for _, number := range append([]int{2, api.MaxUsers}, extremes...) {
		answers(t, "DropUser", f.DropUser(number), api.ErrNone)
		answers(t, "Change", f.Change(number, 0, -1), api.ErrNone)
	}
	for _, c := range [][2]int{{0, 5}, {-1, 5}, {api.MaxWeight + 1, 5}, {math.MaxInt, 5}, {1, -1}, {1, api.MaxCap + 1}, {1, math.MinInt}} {
		answers(t, "Change", f.Change(0, c[0], c[1]), api.ErrUser)
	}
	answers(t, "Change", f.Change(0, api.MaxWeight, api.MaxCap), api.OK)
	stands(t, "a raised cap", f, 0, "5", 1, 0, 6)
	stands(t, "a raised cap", f, 1, "5/2", 3, 3, 2)
	answers(t, "Change", f.Change(0, 1, 0), api.OK)
	stands(t, "a cap of 0 again", f, 0, "0", 7, 6, 0)
	stands(t, "a cap of 0 again", f, 1, "5", 0, 3, 5)
}

func TestUsersThatGo(t *testing.T) {
	f := open(t, 1)
	addMachine(t, f, 0, 6)
	addBusyUser(t, f, 0, user(1, 1000, 1), 8)
	addBusyUser(t, f, 1, user(1, 1000, 1), 8)
	stands(t, "both", f, 0, "3", 5, 3, 3)
	answers(t, "DropUser", f.DropUser(0), api.OK)
	stands(t, "one is left", f, 1, "6", 2, 0, 6)
	if n, e := f.Revoked(0); n != 3 || e != api.OK {
		t.Errorf("P12: Revoked of a user that is gone = %d, %d", n, e)
	}
	if n, e := f.Revoked(2); n != 0 || e != api.ErrNone {
		t.Errorf("P14: Revoked of a number that is not given = %d, %d", n, e)
	}
	answers(t, "DropUser", f.DropUser(1), api.OK)
	for number := range 2 {
		answers(t, "DropUser", f.DropUser(number), api.ErrNone)
		answers(t, "Change", f.Change(number, 1, 1), api.ErrNone)
		answers(t, "Submit", f.Submit(number, 0), api.ErrNone)
		answers(t, "Cancel", f.Cancel(number, 0), api.ErrNone)
		answers(t, "Finish", f.Finish(number, 0), api.ErrNone)
	}
	addBusyUser(t, f, 2, user(1, 1000, 3), 1)
	stands(t, "a user behind the last", f, 2, "1", 0, 0, 1)
}

func TestTasks(t *testing.T) {
	f := open(t, 1)
	addUser(t, f, 0, user(1, 1000, 4))
	addUser(t, f, 1, user(1, 1000, 9))
	for _, number := range append([]int{2, api.MaxUsers}, extremes...) {
		answers(t, "Submit", f.Submit(number, 0), api.ErrNone)
		answers(t, "Cancel", f.Cancel(number, 0), api.ErrNone)
		answers(t, "Finish", f.Finish(number, 0), api.ErrNone)
		answers(t, "Finish", f.Finish(0, number), api.ErrNone)
	}
	for _, n := range append([]int{0, api.MaxTasks + 1}, extremes...) {
		answers(t, "Submit", f.Submit(0, n), api.ErrCount)
	}
	answers(t, "Submit", f.Submit(0, api.MaxTasks), api.OK)
	answers(t, "Submit", f.Submit(0, 1), api.ErrCount)
	answers(t, "Submit", f.Submit(0, math.MaxInt), api.ErrCount)
	stands(t, "no machine", f, 0, "0", 40, 0)
	addMachine(t, f, 0, 9)
	addMachine(t, f, 1, 0)
	stands(t, "a machine", f, 0, "9/4", 38, 0, 2, 0)
	answers(t, "Submit", f.Submit(0, 1), api.ErrCount)
	for _, n := range append([]int{0, 39, 40}, extremes...) {
		answers(t, "Cancel", f.Cancel(0, n), api.ErrCount)
	}
	answers(t, "Cancel", f.Cancel(0, 37), api.OK)
	stands(t, "many are cancelled", f, 0, "9/4", 1, 0, 2, 0)
	answers(t, "Finish", f.Finish(0, 1), api.ErrCount)
	answers(t, "Finish", f.Finish(1, 0), api.ErrCount)
	answers(t, "Finish", f.Finish(0, 0), api.OK)
	stands(t, "one is done", f, 0, "2", 0, 0, 2, 0)
	answers(t, "Cancel", f.Cancel(0, 1), api.ErrCount)
	answers(t, "Finish", f.Finish(0, 0), api.OK)
	answers(t, "Finish", f.Finish(0, 0), api.OK)
	stands(t, "all are done", f, 0, "0", 0, 0, 0, 0)
	answers(t, "Finish", f.Finish(0, 0), api.ErrCount)
	answers(t, "Submit", f.Submit(0, api.MaxTasks), api.OK)
	stands(t, "as many as at first", f, 0, "9/4", 38, 0, 2, 0)
	answers(t, "Cancel", f.Cancel(0, 38), api.OK)
	answers(t, "DropMachine", f.DropMachine(0), api.OK)
	answers(t, "Cancel", f.Cancel(0, 2), api.OK)
	stands(t, "all that ran and wait are cancelled", f, 0, "0", 0, 0, -1, 0)
}

func TestAskingOfWhatIsNotThere(t *testing.T) {
	f := open(t, 1)
	addMachine(t, f, 0, 5)
	addMachine(t, f, 1, 5)
	addBusyUser(t, f, 0, user(1, 9, 1), 3)
	addBusyUser(t, f, 1, user(1, 9, 1), 3)
	answers(t, "DropMachine", f.DropMachine(1), api.OK)
	answers(t, "DropUser", f.DropUser(1), api.OK)
	for _, number := range append([]int{1, 2, api.MaxUsers, api.MaxMachines}, extremes...) {
		n, e := f.Running(number, 0)
		m, g := f.Running(0, number)
		w, h := f.Waiting(number)
		d, i := f.Due(number)
		if n != 0 || m != 0 || w != 0 || d != "" || e != api.ErrNone || g != api.ErrNone || h != api.ErrNone || i != api.ErrNone {
			t.Errorf("P14: of %d: %d, %d; %d, %d; %d, %d; %q, %d", number, n, e, m, g, w, h, d, i)
		}
		if r, e := f.Revoked(number); r != 0 || (e == api.OK) != (number == 1) || e != api.OK && e != api.ErrNone {
			t.Errorf("P14: Revoked(%d) = %d, %d", number, r, e)
		}
	}
}

func TestListsStayTheCallers(t *testing.T) {
	f := open(t, 2)
	size, demand := []int{10, 20, 77}, []int{3, 1, 88}
	addMachine(t, f, 0, size[:2]...)
	addBusyUser(t, f, 0, user(1, 9, demand[:2]...), 4)
	if fmt.Sprint(size, demand) != "[10 20 77] [3 1 88]" {
		t.Errorf("P2: a list was written into: %v, %v", size, demand)
	}
	size[0], demand[0] = 1, 10
	answers(t, "Submit", f.Submit(0, 1), api.OK)
	stands(t, "lists that were written into", f, 0, "10/3", 2, 0, 3)
	answers(t, "Tick", f.Tick(1), api.OK)
	accounts(t, "lists that were written into", f, []int{1, 17}, []int{9, 3})
	answers(t, "DropMachine", f.DropMachine(0), api.OK)
	addMachine(t, f, 1, 6, 6)
	stands(t, "another machine", f, 0, "2", 3, 0, -1, 2)
	if fmt.Sprint(size, demand) != "[1 20 77] [10 1 88]" {
		t.Errorf("P2: a list was written into later: %v, %v", size, demand)
	}
}
