package state

import (
	"math"
	"reflect"
	"strings"
	"testing"

	"bellman/api"
)

const (
	fiveTries = "* * * * * oa5 >a <b\n"
	oneTry    = "* * * * * oa1 >a <b\n"
)

// some is a state with slots that run and wait.
func some() State {
	return State{
		Tab:   fiveTries + oneTry,
		Clock: 1000,
		Next:  9,
		Slots: []Slot{
			{Number: 2, Line: 1, Minute: 990, Attempt: 1, From: 990, Step: 2, Answered: 997},
			{Number: 5, Line: 2, Minute: 991, Attempt: 1, From: 991, Step: 1, Answered: 996},
			{Number: 6, Line: 1, Minute: 991, Attempt: 3, From: 1000},
			{Number: 8, Line: 1, Minute: 992, Attempt: 5, From: 998, Step: 2, Answered: 998},
		},
		Ends: []api.End{{Number: 1, How: "d"}, {Number: 7, How: "s"}},
	}
}

func wantState(t *testing.T, got, want State) {
	t.Helper()
	if !reflect.DeepEqual(got, want) {
		t.Errorf("got  %+v\nwant %+v", got, want)
	}
}

func TestFailWaitsForAnotherAttempt(t *testing.T) {
	want := some()
	want.Slots[0] = Slot{Number: 2, Line: 1, Minute: 990, Attempt: 2, From: 1002}
	before := some()
	after, errno := before.WithFail(2)
	if errno != api.OK {
		t.Errorf("Fail of 2: %d", errno)
	}
	wantState(t, after, want)
	wantState(t, before, some())
}

func TestFailAtTheLastAttempt(t *testing.T) {
	for _, number := range []int{5, 8} {
		want := some()
		want.Slots = without(want.Slots, number)
		want.Ends = append(want.Ends, api.End{Number: number, How: "a"})
		before := some()
		after, errno := before.WithFail(number)
		if errno != api.OK {
			t.Errorf("Fail of %d: %d", number, errno)
		}
		wantState(t, after, want)
		wantState(t, before, some())
	}
}

func TestDelays(t *testing.T) {
	for _, c := range []struct{ attempt, minutes int }{{1, 2}, {2, 4}, {3, 8}, {4, 10}} {
		for _, clock := range []int{1000, api.MaxMinute} {
			for line, tab := range []string{fiveTries + oneTry, oneTry + fiveTries} {
				s := some()
				s.Tab = tab
				s.Clock = clock
				s.Slots[0].Line = line + 1
				s.Slots[0].Attempt = c.attempt
				after, errno := s.WithFail(2)
				want := Slot{Number: 2, Line: line + 1, Minute: 990, Attempt: c.attempt + 1, From: clock + c.minutes}
				if errno != api.OK || after.Slots[0] != want {
					t.Errorf("Fail at attempt %d, clock %d: %d, %+v, want %+v", c.attempt, clock, errno, after.Slots, want)
				}
			}
		}
	}
}

func TestFailOfWhatDoesNotRun(t *testing.T) {
	for _, c := range []struct {
		number int
		errno  api.Errno
	}{{6, api.ErrState}, {0, api.ErrSlot}, {1, api.ErrSlot}, {7, api.ErrSlot}, {9, api.ErrSlot}, {-2, api.ErrSlot}, {math.MaxInt, api.ErrSlot}, {math.MinInt, api.ErrSlot}} {
		before := some()
		after, errno := before.WithFail(c.number)
		if errno != c.errno {
			t.Errorf("Fail of %d: %d, want %d", c.number, errno, c.errno)
		}
		wantState(t, after, State{})
		wantState(t, before, some())
	}
}

func TestUnanswered(t *testing.T) {
	for _, c := range []struct {
		clock int
		want  []int
	}{{998, []int{}}, {999, []int{5}}, {1000, []int{2, 5}}, {1001, []int{2, 5, 8}}, {2500, []int{2, 5, 8}}} {
		s := some()
		s.Clock = c.clock
		if got := s.Unanswered(); !reflect.DeepEqual(got, c.want) {
			t.Errorf("unanswered at %d: %v, want %v", c.clock, got, c.want)
		}
	}
}

// A change makes a new state, and leaves the one that it was made of alone,
// even if that one is changed in two ways.
func TestStatesShareNothingThatChanges(t *testing.T) {
	first := some()
	once, errno := first.WithClock(1003)
	if errno != api.OK {
		t.Fatalf("Clock: %d", errno)
	}
	keptSlots := append([]Slot{}, once.Slots...)
	keptEnds := append([]api.End{}, once.Ends...)
	for _, number := range []int{2, 5, 8} {
		if _, errno := once.WithFail(number); errno != api.OK {
			t.Fatalf("Fail of %d: %d", number, errno)
		}
		if _, errno := once.Hear(number, "b"); errno != api.OK {
			t.Fatalf("hearing of %d: %d", number, errno)
		}
		if _, errno := once.WithDone(number); errno != api.OK {
			t.Fatalf("Done of %d: %d", number, errno)
		}
	}
	if _, errno := once.WithCancel(2); errno != api.OK {
		t.Fatalf("Cancel of 2: %d", errno)
	}
	if _, errno := once.WithStart(6); errno != api.OK {
		t.Fatalf("Start of 6: %d", errno)
	}
	if _, errno := once.WithClock(2000); errno != api.OK {
		t.Fatalf("Clock: %d", errno)
	}
	wantState(t, first, some())
	if !reflect.DeepEqual(once.Slots, keptSlots) || !reflect.DeepEqual(once.Ends, keptEnds) {
		t.Errorf("a later change shows in %+v", once)
	}
}

func TestInterrupted(t *testing.T) {
	want := some()
	for i := range want.Slots {
		want.Slots[i].Step = 0
		want.Slots[i].Answered = 0
		want.Slots[i].Heard = ""
	}
	before := some()
	before.Slots[0].Heard = "x"
	after := before.Interrupted()
	wantState(t, after, want)
	if before.Slots[0].Step != 2 || before.Slots[0].Heard != "x" {
		t.Errorf("the state before is %+v", before)
	}
}

func TestClocksThatMayBe(t *testing.T) {
	for _, c := range []struct {
		clock int
		may   bool
	}{{math.MinInt, false}, {-2, false}, {-1, true}, {0, true}, {api.MaxMinute, true}, {api.MaxMinute + 1, false}} {
		s := State{Clock: c.clock, Next: 1}
		if s.MayBe() != c.may {
			t.Errorf("with the clock %d: %v", c.clock, s.MayBe())
		}
	}
	if !some().MayBe() || !First().MayBe() {
		t.Errorf("a state that may be is none")
	}
}

func TestTabThatIsNone(t *testing.T) {
	before := some()
	before.Slots = nil
	for _, c := range []struct {
		tab   string
		errno api.Errno
	}{{"x", api.ErrLine}, {fiveTries + "x", api.ErrLine}, {"\n\n\n\n\n", api.ErrMany}, {strings.Repeat("x", 301), api.ErrLong}, {"", api.OK}, {oneTry, api.OK}} {
		after, errno := before.WithTab(c.tab)
		if errno != c.errno || errno == api.OK && after.Tab != c.tab {
			t.Errorf("Tab of %q: %d, want %d", c.tab, errno, c.errno)
		}
	}
}

func TestTabWithSlots(t *testing.T) {
	after, errno := some().WithTab("")
	if errno != api.ErrBusy {
		t.Errorf("Tab with slots: %d", errno)
	}
	wantState(t, after, State{})
}
