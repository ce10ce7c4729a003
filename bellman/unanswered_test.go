package bellman

import (
	"strings"
	"testing"

	"bellman/api"
	"bellman/frame"
	"bellman/state"
)

// These tests look inside, as they need slots that run.

const talking = "*/5 * * * * xa2 >hi <ok >by\n0 0 1 1 * oa1 >hi <ok\n"

// withSlots is a box at the minute 1012 with these slots.
func withSlots(t *testing.T, slots ...state.Slot) *Box {
	t.Helper()
	b, errno := New(4, 600)
	if errno != api.OK {
		t.Fatalf("New: %d", errno)
	}
	b.Load(talking)
	b.Tick(1012)
	b.state.Next = 100
	b.state.Slots = slots
	return b
}

func wantTold(t *testing.T, b *Box, m, given int, slots []api.Slot, ends []api.End) {
	t.Helper()
	if n, e := b.Tick(m); n != given || e != api.OK {
		t.Fatalf("P8: Tick(%d) = %d, %d, want %d", m, n, e, given)
	}
	v := b.Look()
	if v.Clock != m || v.Slots != len(slots) || v.Ends != len(ends) {
		t.Fatalf("P8: behind Tick(%d): %+v, want %d slots, %d ends", m, v, len(slots), len(ends))
	}
	for i, slot := range slots {
		if s, e := b.Slot(i); s != slot || e != api.OK {
			t.Errorf("P8: behind Tick(%d): slot %d is %+v, want %+v", m, i, s, slot)
		}
	}
	for i, end := range ends {
		if s, e := b.End(i); s != end || e != api.OK {
			t.Errorf("P8: behind Tick(%d): end %d is %+v, want %+v", m, i, s, end)
		}
	}
}

// The second half of example 6.
func TestNotAnsweredForThreeMinutes(t *testing.T) {
	b := withSlots(t, state.Slot{Number: 2, Line: 1, Minute: 1005, Attempt: 1, From: 1005, Step: 2, Answered: 1012})
	b.state.Next = 4
	log := b.log
	wantTold(t, b, 1014, 0, []api.Slot{{Number: 2, Line: 1, Minute: 1005, Attempt: 1, From: 1005, Step: 2}}, nil)
	wantTold(t, b, 1015, 1, []api.Slot{{Number: 2, Line: 1, Minute: 1005, Attempt: 2, From: 1017}, {Number: 4, Line: 1, Minute: 1015, Attempt: 1, From: 1015}}, nil)
	if want := log + frame.Clock(1014) + frame.Clock(1015) + "\x00\x03F\x00\x02" + frame.Fail(2)[5:]; b.Log() != want {
		t.Errorf("P7: the log is %x, want %x", b.Log(), want)
	}
	wantTold(t, b, 1016, 0, []api.Slot{{Number: 2, Line: 1, Minute: 1005, Attempt: 2, From: 1017}, {Number: 4, Line: 1, Minute: 1015, Attempt: 1, From: 1015}}, nil)
}

func TestSomeNotAnswered(t *testing.T) {
	b := withSlots(t,
		state.Slot{Number: 3, Line: 1, Minute: 1000, Attempt: 2, From: 1005, Step: 2, Answered: 1010},
		state.Slot{Number: 4, Line: 2, Minute: 1000, Attempt: 1, From: 1000, Step: 2, Answered: 1011},
		state.Slot{Number: 5, Line: 2, Minute: 1000, Attempt: 1, From: 1000, Step: 2, Answered: 1009},
		state.Slot{Number: 6, Line: 1, Minute: 1005, Attempt: 1, From: 1005},
	)
	log := b.log
	wantTold(t, b, 1013, 0, []api.Slot{{Number: 4, Line: 2, Minute: 1000, Attempt: 1, From: 1000, Step: 2}, {Number: 6, Line: 1, Minute: 1005, Attempt: 1, From: 1005}}, []api.End{{Number: 3, How: "a"}, {Number: 5, How: "a"}})
	if want := log + frame.Clock(1013) + frame.Fail(3) + frame.Fail(5); b.Log() != want {
		t.Errorf("P7: the log is %x, want %x", b.Log(), want)
	}
}

// The slot that fails makes no place for what comes due in the same call.
func TestSkippedBeforeGivenUp(t *testing.T) {
	slots, waiting := []state.Slot{}, []api.Slot{}
	for number := 11; number <= 18; number++ {
		slots = append(slots, state.Slot{Number: number, Line: 1, Minute: 1000, Attempt: 1, From: 1000})
		waiting = append(waiting, api.Slot{Number: number, Line: 1, Minute: 1000, Attempt: 1, From: 1000})
	}
	slots[0] = state.Slot{Number: 11, Line: 2, Minute: 1000, Attempt: 1, From: 1000, Step: 2, Answered: 1000}
	b := withSlots(t, slots...)
	wantTold(t, b, 1015, 1, waiting[1:], []api.End{{Number: 100, How: "s"}, {Number: 11, How: "a"}})
}

// The room must do for all changes of the call, or none is made.
func TestRoomForAllChanges(t *testing.T) {
	for _, lacking := range []int{0, 1, 9, 10, 18, 19, 30} {
		b := withSlots(t,
			state.Slot{Number: 3, Line: 1, Minute: 1000, Attempt: 1, From: 1000, Step: 2, Answered: 1010},
			state.Slot{Number: 4, Line: 2, Minute: 1000, Attempt: 1, From: 1000, Step: 2, Answered: 1010},
		)
		b.log = strings.Repeat("x", 600-12-9-9+lacking)
		before, log := b.Look(), b.log
		n, e := b.Tick(1015)
		if lacking == 0 {
			if n != 1 || e != api.OK || len(b.log) != 600 {
				t.Errorf("P8: just room: Tick = %d, %d, a log of %d bytes", n, e, len(b.log))
			}
			continue
		}
		if n != 0 || e != api.ErrRoom || b.Look() != before || b.log != log {
			t.Errorf("P8: %d bytes lacking: Tick = %d, %d, %+v", lacking, n, e, b.Look())
		}
		if s, errno := b.Slot(0); s.Step != 2 || s.Attempt != 1 || errno != api.OK {
			t.Errorf("P8: %d bytes lacking: slot 0 is %+v", lacking, s)
		}
	}
}
