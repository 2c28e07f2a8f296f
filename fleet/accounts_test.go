package fleet_test

import (
	"testing"

	"portion/api"
	"portion/fleet"
)

// accounts looks at what was idle and what each user used, of all kinds.
func accounts(t *testing.T, when string, f *fleet.Fleet, idle []int, used ...[]int) {
	t.Helper()
	for k, want := range idle {
		if n, e := f.Idle(k); n != want || e != api.OK {
			t.Errorf("P17: %s: Idle(%d) = %d, %d, want %d", when, k, n, e, want)
		}
	}
	for u, l := range used {
		for k, want := range l {
			if n, e := f.Used(u, k); n != want || e != api.OK {
				t.Errorf("P17: %s: Used(%d, %d) = %d, %d, want %d", when, u, k, n, e, want)
			}
		}
	}
}

// pass lets time go by, up to what the clock is to show then.
func pass(t *testing.T, f *fleet.Fleet, n int, clock int) {
	t.Helper()
	e := f.Tick(n)
	if got := f.Clock(); got != clock || e != api.OK {
		t.Fatalf("P17: Tick(%d) answers %d, the clock then stands at %d, want %d", n, e, got, clock)
	}
}

// refused looks at a Tick that is.
func refused(t *testing.T, f *fleet.Fleet, n int, want api.Errno) {
	t.Helper()
	before := picture(f)
	if e := f.Tick(n); e != want {
		t.Errorf("P17: Tick(%d) at %d answers %d, want %d", n, f.Clock(), e, want)
	}
	if after := picture(f); after != before {
		t.Errorf("P10, P17: Tick(%d) is refused and changes something:\n%s\n%s", n, before, after)
	}
}

func TestAccountsOfTheDocument(t *testing.T) {
	f := open(t, 1)
	addMachine(t, f, 0, 10)
	addBusyUser(t, f, 0, user(1, 10, 3), 5)
	addBusyUser(t, f, 1, user(1, 10, 2), 4)
	accounts(t, "no time went by", f, []int{0}, []int{0}, []int{0})
	pass(t, f, 3, 3)
	accounts(t, "3 units", f, []int{0}, []int{18}, []int{12})
	answers(t, "Finish", f.Finish(1, 0), api.OK)
	answers(t, "Change", f.Change(1, 4, 10), api.OK)
	accounts(t, "commands take no time", f, []int{0}, []int{18}, []int{12})
	pass(t, f, 1, 4)
	accounts(t, "4 units", f, []int{1}, []int{21}, []int{18})
	answers(t, "DropMachine", f.DropMachine(0), api.OK)
	pass(t, f, 1, 5)
	accounts(t, "time without a machine", f, []int{1}, []int{21}, []int{18})
	addMachine(t, f, 1, 4)
	accounts(t, "a machine behind the last", f, []int{1}, []int{21}, []int{18})
}

func TestAccountsOfSeveralKindsAndMachines(t *testing.T) {
	f := open(t, 3)
	pass(t, f, 7, 7)
	accounts(t, "a fleet without anything", f, []int{0, 0, 0})
	addMachine(t, f, 0, 5, 9, 4)
	addMachine(t, f, 1, 5, 9, 0)
	pass(t, f, 2, 9)
	accounts(t, "machines without users", f, []int{20, 36, 8})
	addBusyUser(t, f, 0, user(1, 1000, 2, 3, 0), 9)
	stands(t, "full machines", f, 0, "5", 5, 0, 2, 2)
	pass(t, f, 10, 19)
	accounts(t, "tasks on both machines", f, []int{40, 96, 48}, []int{80, 120, 0})
	answers(t, "DropMachine", f.DropMachine(0), api.OK)
	pass(t, f, 1, 20)
	accounts(t, "what waits uses nothing", f, []int{41, 99, 48}, []int{84, 126, 0})
	answers(t, "Cancel", f.Cancel(0, 7), api.OK)
	answers(t, "Finish", f.Finish(0, 1), api.OK)
	pass(t, f, 1, 21)
	accounts(t, "what is done uses nothing", f, []int{44, 105, 48}, []int{86, 129, 0})
}

func TestAccountsOfUsersThatGo(t *testing.T) {
	f := open(t, 2)
	addMachine(t, f, 0, 6, 8)
	addBusyUser(t, f, 0, user(1, 1000, 1, 1), 4)
	pass(t, f, 5, 5)
	accounts(t, "one user", f, []int{10, 20}, []int{20, 20})
	answers(t, "DropUser", f.DropUser(0), api.OK)
	accounts(t, "it goes", f, []int{10, 20}, []int{20, 20})
	pass(t, f, 1, 6)
	accounts(t, "time goes by without it", f, []int{16, 28}, []int{20, 20})
	addBusyUser(t, f, 1, user(1, 1000, 2, 0), 3)
	accounts(t, "a new user has used nothing", f, []int{16, 28}, []int{20, 20}, []int{0, 0})
	pass(t, f, 1, 7)
	accounts(t, "it uses its own", f, []int{16, 36}, []int{20, 20}, []int{6, 0})
	answers(t, "DropUser", f.DropUser(1), api.OK)
	answers(t, "DropUser again", f.DropUser(1), api.ErrNone)
	accounts(t, "both are gone", f, []int{16, 36}, []int{20, 20}, []int{6, 0})
}

func TestAccountsOfWhatIsNotThere(t *testing.T) {
	for kinds := 1; kinds <= api.MaxKinds; kinds++ {
		f := open(t, kinds)
		size := []int{9, 9, 9, 9}[:kinds]
		addMachine(t, f, 0, size...)
		addBusyUser(t, f, 0, user(1, 1000, []int{1, 2, 3, 4}[:kinds]...), 1)
		addUser(t, f, 1, user(1, 1000, size...))
		answers(t, "DropUser", f.DropUser(1), api.OK)
		pass(t, f, 1, 1)
		accounts(t, "all kinds", f, []int{8, 7, 6, 5}[:kinds], []int{1, 2, 3, 4}[:kinds], make([]int, kinds))
		for _, kind := range append([]int{kinds, kinds + 1, api.MaxKinds, api.MaxKinds + 1}, extremes...) {
			n, e := f.Idle(kind)
			m, g := f.Used(0, kind)
			l, h := f.Used(1, kind)
			if n != 0 || m != 0 || l != 0 || e != api.ErrNone || g != api.ErrNone || h != api.ErrNone {
				t.Errorf("P17: of kind %d of %d: Idle = %d, %d; Used = %d, %d; of a user that is gone %d, %d", kind, kinds, n, e, m, g, l, h)
			}
		}
		for _, number := range append([]int{2, api.MaxUsers - 1, api.MaxUsers, api.MaxUsers + 1}, extremes...) {
			if n, e := f.Used(number, 0); n != 0 || e != api.ErrNone {
				t.Errorf("P17: Used(%d, 0) = %d, %d", number, n, e)
			}
		}
	}
}

func TestTicksThatAreRefused(t *testing.T) {
	f := open(t, 1)
	addMachine(t, f, 0, 5)
	addBusyUser(t, f, 0, user(1, 1000, 2), 1)
	counts := append([]int{0, api.MaxTick + 1, api.MaxClock, api.MaxClock + 1}, extremes...)
	for _, n := range counts {
		refused(t, f, n, api.ErrCount)
	}
	pass(t, f, 1, 1)
	for clock := 1 + api.MaxTick; clock < api.MaxClock; clock += api.MaxTick {
		pass(t, f, api.MaxTick, clock)
	}
	refused(t, f, api.MaxTick, api.ErrClock)
	pass(t, f, api.MaxTick-2, api.MaxClock-1)
	accounts(t, "one unit is left", f, []int{2999997}, []int{1999998})
	refused(t, f, 2, api.ErrClock)
	pass(t, f, 1, api.MaxClock)
	refused(t, f, 1, api.ErrClock)
	refused(t, f, api.MaxTick, api.ErrClock)
	for _, n := range counts {
		refused(t, f, n, api.ErrCount)
	}
	accounts(t, "all time is over", f, []int{3000000}, []int{2000000})
	answers(t, "DropUser", f.DropUser(0), api.OK)
	addBusyUser(t, f, 1, user(1, 1000, 1), 9)
	stands(t, "commands go on", f, 1, "5", 4, 0, 5)
	accounts(t, "commands go on", f, []int{3000000}, []int{2000000}, []int{0})
}

func TestTheLastUnitOfTimeInOneTick(t *testing.T) {
	f := open(t, 1)
	for n := range api.MaxClock / api.MaxTick {
		pass(t, f, api.MaxTick, (n+1)*api.MaxTick)
	}
	refused(t, f, 1, api.ErrClock)
}

func TestTheGreatestAccounts(t *testing.T) {
	f := open(t, 2)
	for m := range api.MaxMachines {
		addMachine(t, f, m, api.MaxSize, api.MaxSize)
	}
	addBusyUser(t, f, 0, user(1, 1000, api.MaxSize, 0), api.MaxMachines)
	for range api.MaxClock / api.MaxTick {
		answers(t, "Tick", f.Tick(api.MaxTick), api.OK)
	}
	accounts(t, "all of one kind used, all of another idle", f, []int{0, 8000000000}, []int{8000000000, 0})
}

// TestTimeMovesNoTask: a Tick is none of the commands behind which a fleet
// settles, and what has settled stays as it is.
func TestTimeMovesNoTask(t *testing.T) {
	f := open(t, 1)
	addMachine(t, f, 0, 7)
	addBusyUser(t, f, 0, user(1, 1000, 3), 4)
	addBusyUser(t, f, 1, user(1, 1000, 2), 4)
	for clock := range 50 {
		stands(t, "time goes by", f, 0, "7/6", 3, 1, 1)
		stands(t, "time goes by", f, 1, "7/4", 2, 0, 2)
		pass(t, f, 1, clock+1)
	}
	accounts(t, "50 units, one at a time", f, []int{0}, []int{150}, []int{200})
	pass(t, f, 50, 100)
	accounts(t, "50 units at once", f, []int{0}, []int{300}, []int{400})
}
