package state

import (
	"math"
	"strings"
	"testing"

	"bellman/api"
)

// noSlots are numbers that none of the slots of some has.
var noSlots = []int{math.MinInt, -6, 0, 1, 3, 4, 7, 9, 65536 + 6, math.MaxInt}

func TestStartRuns(t *testing.T) {
	want := some()
	want.Slots[2] = Slot{Number: 6, Line: 1, Minute: 991, Attempt: 3, From: 1000, Step: 1, Answered: 1000}
	before := some()
	after, errno := before.WithStart(6)
	if errno != api.OK {
		t.Errorf("Start of 6: %d", errno)
	}
	wantState(t, after, want)
	wantState(t, before, some())
	if before.Running() != 3 || after.Running() != 4 {
		t.Errorf("%d run, then %d, want 3 and 4", before.Running(), after.Running())
	}
}

// How many run at once is not for the change to say: a log may be opened with
// a lower limit.
func TestStartThatMayNotBe(t *testing.T) {
	early, locked := some(), some()
	early.Clock = 999
	locked.Tab = "* * * * * xa5 >a <b\n" + oneTry
	bothOnes := locked
	bothOnes.Clock = 999
	for _, c := range []struct {
		before State
		number int
		errno  api.Errno
	}{{some(), 2, api.ErrState}, {some(), 5, api.ErrState}, {early, 6, api.ErrEarly}, {locked, 6, api.ErrLock}, {bothOnes, 6, api.ErrEarly}, {locked, 2, api.ErrState}} {
		after, errno := c.before.WithStart(c.number)
		if errno != c.errno {
			t.Errorf("Start of %d: %d, want %d", c.number, errno, c.errno)
		}
		wantState(t, after, State{})
	}
	locked.Slots = []Slot{locked.Slots[1], locked.Slots[2]}
	if _, errno := locked.WithStart(6); errno != api.OK {
		t.Errorf("Start of 6 with a slot of another line running: %d", errno)
	}
}

func TestDoneAndCancel(t *testing.T) {
	for _, number := range []int{2, 5, 8} {
		want := some()
		want.Slots = without(want.Slots, number)
		want.Ends = append(want.Ends, api.End{Number: number, How: "d"})
		after, errno := some().WithDone(number)
		if errno != api.OK {
			t.Errorf("Done of %d: %d", number, errno)
		}
		wantState(t, after, want)
	}
	if after, errno := some().WithDone(6); errno != api.ErrState || after.Slots != nil {
		t.Errorf("Done of one that waits: %d", errno)
	}
	for _, number := range []int{2, 5, 6, 8} {
		want := some()
		want.Slots = without(want.Slots, number)
		want.Ends = append(want.Ends, api.End{Number: number, How: "k"})
		after, errno := some().WithCancel(number)
		if errno != api.OK {
			t.Errorf("Cancel of %d: %d", number, errno)
		}
		wantState(t, after, want)
	}
}

func TestChangesOfNoSlot(t *testing.T) {
	for _, number := range noSlots {
		started, startErrno := some().WithStart(number)
		done, doneErrno := some().WithDone(number)
		cancelled, cancelErrno := some().WithCancel(number)
		talk, hearErrno := some().Hear(number, "b")
		for _, errno := range []api.Errno{startErrno, doneErrno, cancelErrno, hearErrno} {
			if errno != api.ErrSlot {
				t.Errorf("a change of %d: %d, want %d", number, errno, api.ErrSlot)
			}
		}
		for _, after := range []State{started, done, cancelled, talk.State} {
			wantState(t, after, State{})
		}
	}
}

// Of what was heard no more is kept than may become part of a word, however
// much was heard.
func TestHeardIsShort(t *testing.T) {
	for _, word := range []string{"b", "ab", "12345678", "aaaaaaaa"} {
		s := some()
		s.Tab = "* * * * * oa1 >a <" + word + "\n" + oneTry
		for i := 1; i < 500; i++ {
			text := strings.Repeat("x", 1+i%30) + word[:len(word)-1]
			talk, errno := s.Hear(2, text)
			if errno != api.OK || talk.Over || talk.Said != "" {
				t.Fatalf("hearing %q for %s: %d, %+v", text, word, errno, talk)
			}
			s = talk.State
			if kept := s.Slots[0].Heard; kept != word[:len(word)-1] {
				t.Fatalf("kept of what was heard: %q, for the word %s", kept, word)
			}
		}
		if talk, errno := s.Hear(2, word[len(word)-1:]); errno != api.OK || !talk.Over {
			t.Errorf("the end of %s: %d, %+v", word, errno, talk)
		}
	}
}

// A talk that is over is not done yet: that is a change of its own.
func TestOverIsNotDone(t *testing.T) {
	talk, errno := some().Hear(2, "xbx")
	want := some()
	want.Slots[0] = Slot{Number: 2, Line: 1, Minute: 990, Attempt: 1, From: 990, Step: 3, Answered: 1000, Heard: "x"}
	if errno != api.OK || !talk.Over || talk.Said != "" {
		t.Errorf("hearing the last word: %d, %v, %q", errno, talk.Over, talk.Said)
	}
	wantState(t, talk.State, want)
	if after, errno := some().Hear(6, "b"); errno != api.ErrState || after.State.Slots != nil {
		t.Errorf("hearing of one that waits: %d", errno)
	}
}
