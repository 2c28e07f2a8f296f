package fleet_test

import (
	"testing"

	"portion/api"
)

// The tests of this file are of P15, one rule each; what is wanted was worked
// out by hand.

func TestDocument(t *testing.T) {
	f := open(t, 1)
	addMachine(t, f, 0, 10)
	addBusyUser(t, f, 0, user(1, 10, 3), 5)
	stands(t, "one user", f, 0, "10/3", 2, 0, 3)
	addBusyUser(t, f, 1, user(1, 10, 2), 4)
	stands(t, "two users", f, 0, "5/3", 3, 1, 2)
	stands(t, "two users", f, 1, "5/2", 2, 0, 2)
	answers(t, "Finish", f.Finish(1, 0), api.OK)
	stands(t, "one is done", f, 0, "5/3", 3, 1, 2)
	stands(t, "one is done", f, 1, "5/2", 1, 0, 2)
	answers(t, "Change", f.Change(1, 4, 10), api.OK)
	stands(t, "another weight", f, 0, "4/3", 4, 2, 1)
	stands(t, "another weight", f, 1, "3", 0, 0, 3)
	answers(t, "DropMachine", f.DropMachine(0), api.OK)
	stands(t, "no machine", f, 0, "0", 5, 2, -1)
	stands(t, "no machine", f, 1, "0", 3, 0, -1)
	addMachine(t, f, 1, 4)
}

func TestDuesAreOfUsersThatAreThere(t *testing.T) {
	f := open(t, 2)
	addMachine(t, f, 0, 6, 3)
	addMachine(t, f, 1, 6, 15)
	addBusyUser(t, f, 0, user(1, 1000, 1, 4), 40)
	addBusyUser(t, f, 1, user(9, 1000, 9, 9), 40)
	addBusyUser(t, f, 2, user(1, 1000, 4, 1), 40)
	answers(t, "DropUser", f.DropUser(1), api.OK)
	if d, e := f.Due(0); d != "36/11" || e != api.OK {
		t.Errorf("P15: Due(0) = %q, %d", d, e)
	}
	if d, e := f.Due(2); d != "24/11" || e != api.OK {
		t.Errorf("P15: Due(2) = %q, %d", d, e)
	}
}

func TestTightestMachine(t *testing.T) {
	f := open(t, 2)
	addMachine(t, f, 0, 20, 1)
	addMachine(t, f, 1, 9, 9)
	addMachine(t, f, 2, 9, 9)
	addMachine(t, f, 3, 17, 0)
	addUser(t, f, 0, user(1, 1000, 2, 1))
	answers(t, "Submit", f.Submit(0, 1), api.OK)
	stands(t, "the least of all kinds together, the lowest number", f, 0, "1", 0, 0, 0, 1, 0, 0)
	answers(t, "Submit", f.Submit(0, 4), api.OK)
	stands(t, "the same machine until it is full, then the next", f, 0, "5", 0, 0, 0, 4, 1, 0)
	answers(t, "Finish", f.Finish(0, 2), api.OK)
	answers(t, "Change", f.Change(0, 1, 5), api.OK)
	answers(t, "DropMachine", f.DropMachine(2), api.OK)
	answers(t, "Submit", f.Submit(0, 1), api.OK)
	stands(t, "the only one that is left", f, 0, "5", 0, 0, 1, 4, -1, 0)
}

func TestTightestMachineWhenFillingUp(t *testing.T) {
	f := open(t, 1)
	addMachine(t, f, 0, 4)
	addMachine(t, f, 1, 3)
	addMachine(t, f, 2, 3)
	addUser(t, f, 0, user(1, 1000, 2))
	addBusyUser(t, f, 1, user(100, 1000, 10), 1)
	stands(t, "a task that fits nowhere", f, 1, "1", 1, 0, 0, 0, 0)
	answers(t, "Submit", f.Submit(0, 1), api.OK)
	stands(t, "above the goal", f, 0, "5/101", 0, 0, 0, 1, 0)
}

func TestGoalsByRisingNumbersAnew(t *testing.T) {
	f := open(t, 1)
	for number := range 3 {
		addBusyUser(t, f, number, user(1, 1000, 2), 2)
	}
	for number := range 3 {
		addMachine(t, f, number, 1)
	}
	addMachine(t, f, 3, 9)
	stands(t, "room for four of six", f, 0, "2", 0, 0, 0, 0, 0, 2)
	stands(t, "room for four of six", f, 1, "2", 0, 0, 0, 0, 0, 2)
	stands(t, "room for four of six", f, 2, "2", 2, 0, 0, 0, 0, 0)
}

func TestGoalOfAHigherNumberIsMetIfThatOfALowerCannotBe(t *testing.T) {
	f := open(t, 1)
	for number := range 3 {
		addMachine(t, f, number, 5)
	}
	addBusyUser(t, f, 0, user(100, 1000, 6), 1)
	addBusyUser(t, f, 1, user(1, 1000, 5), 3)
	stands(t, "larger than each machine", f, 0, "1", 1, 0, 0, 0, 0)
	stands(t, "larger than each machine", f, 1, "9/5", 0, 0, 1, 1, 1)
	addBusyUser(t, f, 2, user(100, 1000, 5), 1)
	stands(t, "a goal out of reach", f, 0, "1", 1, 0, 0, 0, 0)
	stands(t, "a goal out of reach", f, 1, "4/5", 1, 1, 0, 1, 1)
	stands(t, "a goal out of reach", f, 2, "1", 0, 0, 1, 0, 0)
}

func TestGreatestLevelGivesWay(t *testing.T) {
	f := open(t, 1)
	addMachine(t, f, 0, 8)
	addBusyUser(t, f, 0, user(2, 1000, 1), 5)
	addBusyUser(t, f, 1, user(1, 1000, 1), 3)
	addBusyUser(t, f, 2, user(100, 1000, 1), 1)
	stands(t, "5/16 and 6/16", f, 0, "14/3", 0, 0, 5)
	stands(t, "5/16 and 6/16", f, 1, "7/3", 1, 1, 2)
	stands(t, "5/16 and 6/16", f, 2, "1", 0, 0, 1)
}

func TestLevelIsByTheGreatestPart(t *testing.T) {
	f := open(t, 2)
	addMachine(t, f, 0, 100, 10)
	addBusyUser(t, f, 0, user(1, 1000, 20, 1), 3)
	addBusyUser(t, f, 1, user(1, 1000, 1, 3), 2)
	stands(t, "room for all", f, 0, "3", 0, 0, 3)
	stands(t, "room for all", f, 1, "2", 0, 0, 2)
	addBusyUser(t, f, 2, user(100, 1000, 0, 2), 2)
	stands(t, "3/5 for both: the lowest number", f, 2, "2", 0, 0, 2)
	stands(t, "then the other; and one is filled up again", f, 0, "2", 0, 1, 3)
	stands(t, "then the other; and one is filled up again", f, 1, "4/3", 1, 1, 1)
}

func TestNobodyGivesWayBelowItsGoal(t *testing.T) {
	f := open(t, 1)
	addMachine(t, f, 0, 4)
	addMachine(t, f, 1, 4)
	addBusyUser(t, f, 0, user(1, 1000, 3), 2)
	addBusyUser(t, f, 1, user(1, 1000, 2), 1)
	stands(t, "all goals are met but one", f, 0, "2", 0, 0, 1, 1)
	stands(t, "all goals are met but one", f, 1, "1", 1, 0, 0, 0)
}

func TestTasksAboveALoweredCapGiveWay(t *testing.T) {
	f := open(t, 1)
	addMachine(t, f, 0, 10)
	addBusyUser(t, f, 0, user(1, 1000, 4), 3)
	answers(t, "Change", f.Change(0, 1, 1), api.OK)
	addBusyUser(t, f, 1, user(1, 1000, 5), 1)
	stands(t, "above a lowered cap", f, 0, "1", 2, 1, 1)
	stands(t, "above a lowered cap", f, 1, "1", 0, 0, 1)
}

func TestPutBack(t *testing.T) {
	f := open(t, 1)
	addMachine(t, f, 0, 10)
	addBusyUser(t, f, 0, user(1, 1000, 1), 4)
	addBusyUser(t, f, 1, user(10, 1000, 6), 1)
	addBusyUser(t, f, 2, user(100, 1000, 6), 1)
	stands(t, "the small ones are back", f, 0, "4/11", 0, 0, 4)
	stands(t, "the small ones are back", f, 1, "20/33", 1, 1, 0)
	stands(t, "the small ones are back", f, 2, "1", 0, 0, 1)
}

func TestPutBackInTheOrderOfTakingOff(t *testing.T) {
	f := open(t, 1)
	addMachine(t, f, 0, 9)
	addBusyUser(t, f, 0, user(1, 1000, 2), 1)
	addBusyUser(t, f, 1, user(2, 1000, 3), 1)
	addBusyUser(t, f, 2, user(4, 1000, 4), 1)
	addBusyUser(t, f, 3, user(100, 1000, 6), 1)
	stands(t, "one of two could be back: the first", f, 0, "3/14", 0, 0, 1)
	stands(t, "one of two could be back: the first", f, 1, "2/7", 1, 1, 0)
	stands(t, "one of two could be back: the first", f, 2, "3/7", 1, 1, 0)
	stands(t, "one of two could be back: the first", f, 3, "1", 0, 0, 1)
}

func TestFewestTasksOff(t *testing.T) {
	f := open(t, 1)
	addMachine(t, f, 0, 4)
	addMachine(t, f, 1, 4)
	addMachine(t, f, 2, 4)
	addBusyUser(t, f, 0, user(1, 1000, 2), 2)
	addBusyUser(t, f, 1, user(4, 1000, 4), 2)
	stands(t, "all run", f, 0, "2", 0, 0, 2, 0, 0)
	stands(t, "all run", f, 1, "2", 0, 0, 0, 1, 1)
	addBusyUser(t, f, 2, user(100, 1000, 4), 1)
	stands(t, "one off, not two; on the lower number", f, 0, "4/5", 0, 0, 2, 0, 0)
	stands(t, "one off, not two; on the lower number", f, 1, "8/5", 1, 1, 0, 0, 1)
	stands(t, "one off, not two; on the lower number", f, 2, "1", 0, 0, 0, 1, 0)
}

func TestFillingUpByLevel(t *testing.T) {
	f := open(t, 1)
	addMachine(t, f, 0, 10)
	addBusyUser(t, f, 0, user(3, 1000, 4), 4)
	addBusyUser(t, f, 1, user(1, 1000, 4), 2)
	stands(t, "no goal above what runs", f, 0, "15/8", 2, 0, 2)
	stands(t, "no goal above what runs", f, 1, "5/8", 2, 0, 0)
	answers(t, "Finish", f.Finish(0, 0), api.OK)
	stands(t, "the least level", f, 0, "15/8", 2, 0, 1)
	stands(t, "the least level", f, 1, "5/8", 1, 0, 1)
	answers(t, "Change", f.Change(1, 1, 0), api.OK)
	stands(t, "a goal above what runs", f, 0, "5/2", 1, 0, 2)
	stands(t, "a goal above what runs", f, 1, "0", 2, 1, 0)
	answers(t, "Finish", f.Finish(0, 0), api.OK)
	stands(t, "nobody above its cap", f, 0, "2", 0, 0, 2)
	answers(t, "Finish", f.Finish(0, 0), api.OK)
	stands(t, "nobody above its cap", f, 0, "1", 0, 0, 1)
	stands(t, "nobody above its cap", f, 1, "0", 2, 1, 0)
}

func TestFillingUpByTheLowestNumber(t *testing.T) {
	f := open(t, 1)
	for number := range 3 {
		addBusyUser(t, f, number, user(1+number, 1000, 5), 4)
	}
	addMachine(t, f, 0, 9)
	stands(t, "levels of 0", f, 0, "3/10", 3, 0, 1)
	stands(t, "levels of 0", f, 1, "3/5", 4, 0, 0)
	stands(t, "levels of 0", f, 2, "9/10", 4, 0, 0)
	addMachine(t, f, 1, 9)
	stands(t, "goals of 0, 1, 1", f, 0, "3/5", 4, 1, 0, 0)
	stands(t, "goals of 0, 1, 1", f, 1, "6/5", 3, 0, 0, 1)
	stands(t, "goals of 0, 1, 1", f, 2, "9/5", 3, 0, 1, 0)
}

func TestGoalsAreLookedAtAgain(t *testing.T) {
	f := open(t, 1)
	addMachine(t, f, 0, 4)
	addBusyUser(t, f, 0, user(1, 1000, 2), 5)
	addBusyUser(t, f, 1, user(2, 1000, 4), 1)
	stands(t, "goals of 0", f, 0, "2/3", 3, 0, 2)
	addMachine(t, f, 1, 2)
	stands(t, "one runs elsewhere, so both give way", f, 0, "1", 4, 2, 0, 1)
	stands(t, "one runs elsewhere, so both give way", f, 1, "1", 0, 0, 1, 0)
}

func TestACapThatIsLowered(t *testing.T) {
	f := open(t, 1)
	addMachine(t, f, 0, 10)
	addBusyUser(t, f, 0, user(1, 1000, 2), 4)
	answers(t, "Change", f.Change(0, 1, 2), api.OK)
	stands(t, "nothing goes by itself", f, 0, "2", 0, 0, 4)
	answers(t, "Submit", f.Submit(0, 1), api.OK)
	stands(t, "room, but no more than the cap", f, 0, "2", 1, 0, 4)
	answers(t, "Finish", f.Finish(0, 0), api.OK)
	answers(t, "Finish", f.Finish(0, 0), api.OK)
	stands(t, "at the cap", f, 0, "2", 1, 0, 2)
	answers(t, "Finish", f.Finish(0, 0), api.OK)
	stands(t, "below the cap", f, 0, "2", 0, 0, 2)
}
