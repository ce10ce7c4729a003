package bellman_test

import (
	"fmt"
	"strings"
	"testing"

	"bellman/api"
)

func TestNotAnsweredForMinutes(t *testing.T) {
	for minutes := 1; minutes <= 1500; minutes += 1 + minutes/5 {
		for _, options := range []string{"xa1", "xa2", "oa5"} {
			p := begin(t, 1, 600, onNewYear+options+" <a")
			p.wantTick(t, 0, 1, api.OK)
			p.wantStart(t, 1, "", api.OK)
			length := len(p.box.Log())
			p.wantTick(t, minutes, 0, api.OK)
			clock := string([]byte{'C', 0, 0, 0, byte(minutes >> 8), byte(minutes)})
			switch {
			case minutes < 3:
				p.wantSlot(t, api.Slot{Number: 1, Line: 1, Attempt: 1, Step: 1})
				p.wantFrames(t, length, clock)
			case options == "xa1":
				p.wantEnds(t, "1a")
				p.wantFrames(t, length, clock, "F\x00\x01")
			default:
				p.wantSlot(t, api.Slot{Number: 1, Line: 1, Attempt: 2, From: minutes + 2})
				p.wantFrames(t, length, clock, "F\x00\x01")
			}
		}
	}
}

// It is the clock at the start that matters, not when the slot was due.
func TestStartedLate(t *testing.T) {
	p := begin(t, 1, 600, onNewYear+"xa2 >a <b")
	p.wantTick(t, 0, 1, api.OK)
	p.wantTick(t, 1000, 0, api.OK)
	p.wantStart(t, 1, "a", api.OK)
	p.wantTick(t, 1001, 0, api.OK)
	p.wantTick(t, 1002, 0, api.OK)
	p.wantStep(t, 1, 2)
	p.wantTick(t, 1003, 0, api.OK)
	p.wantSlot(t, api.Slot{Number: 1, Line: 1, Attempt: 2, From: 1005})
}

func TestWaitingIsNotRunning(t *testing.T) {
	p := begin(t, 1, 600, onNewYear+"xa2 >a <b")
	p.wantTick(t, 0, 1, api.OK)
	p.wantTick(t, 100, 0, api.OK)
	p.wantSlot(t, api.Slot{Number: 1, Line: 1, Attempt: 1})
	p.wantStart(t, 1, "a", api.OK)
	p.wantTick(t, 103, 0, api.OK)
	p.wantTick(t, 203, 0, api.OK)
	p.wantSlot(t, api.Slot{Number: 1, Line: 1, Attempt: 2, From: 105})
}

// The last attempt is the one that the line's digit names.
func TestAttempts(t *testing.T) {
	for attempts := 1; attempts <= 5; attempts++ {
		p := begin(t, 1, 4000, fmt.Sprintf("%soa%d <a", onNewYear, attempts), onNewYear+"oa3 >b")
		p.wantTick(t, 0, 2, api.OK)
		for attempt := 1; attempt < attempts; attempt++ {
			p.wantStart(t, 1, "", api.OK)
			m := p.model.clock + 3
			p.wantTick(t, m, 0, api.OK)
			from := m + []int{2, 4, 8, 10}[attempt-1]
			p.wantSlot(t, api.Slot{Number: 1, Line: 1, Attempt: attempt + 1, From: from})
			p.wantTick(t, from, 0, api.OK)
		}
		p.wantStart(t, 1, "", api.OK)
		p.wantTick(t, p.model.clock+3, 0, api.OK)
		p.wantEnds(t, "1a")
		p.wantStart(t, 1, "", api.ErrSlot)
	}
}

func TestAWordFoundBeginsTheWaitingAnew(t *testing.T) {
	p := begin(t, 1, 4000, onNewYear+"xa1 <a <b >x <c <d")
	p.wantTick(t, 0, 1, api.OK)
	p.wantStart(t, 1, "", api.OK)
	p.wantTick(t, 2, 0, api.OK)
	p.wantFeed(t, 1, "a", "", api.OK)
	p.wantTick(t, 4, 0, api.OK)
	p.wantFeed(t, 1, "b", "x", api.OK)
	p.wantTick(t, 5, 0, api.OK)
	p.wantFeed(t, 1, "no word", "", api.OK)
	p.wantTick(t, 6, 0, api.OK)
	p.wantStep(t, 1, 4)
	p.wantFeed(t, 1, "c", "", api.OK)
	p.wantTick(t, 7, 0, api.OK)
	p.wantFeed(t, 1, "", "", api.OK)
	p.wantTick(t, 8, 0, api.OK)
	p.wantFeed(t, 1, "c", "", api.OK)
	p.wantStep(t, 1, 5)
	p.wantTick(t, 9, 0, api.OK)
	p.wantEnds(t, "1a")
}

// A text that was refused is no answer.
func TestRefusedIsNotAnswered(t *testing.T) {
	p := begin(t, 1, 600, onNewYear+"xa1 <a <b")
	p.wantTick(t, 0, 1, api.OK)
	p.wantStart(t, 1, "", api.OK)
	p.wantTick(t, 2, 0, api.OK)
	p.wantFeed(t, 1, strings.Repeat("a", 41), "", api.ErrLong)
	p.wantTick(t, 3, 0, api.OK)
	p.wantEnds(t, "1a")
}

func TestSeveralNotAnswered(t *testing.T) {
	p := begin(t, 4, 4000, "0-3 0 1 1 * oa2 <a", "0-3 0 1 1 * oa1 <a", "6 0 1 1 * oa1 >b")
	for m := 0; m <= 3; m++ {
		p.wantTick(t, m, 2, api.OK)
	}
	p.wantStart(t, 7, "", api.OK)
	p.wantStart(t, 2, "", api.OK)
	p.wantTick(t, 4, 0, api.OK)
	p.wantStart(t, 6, "", api.OK)
	p.wantStart(t, 1, "", api.OK)
	p.wantTick(t, 5, 0, api.OK)
	length := len(p.box.Log())
	p.wantTick(t, 6, 1, api.OK)
	p.wantFrames(t, length, "C\x00\x00\x00\x00\x06", "F\x00\x02", "F\x00\x07")
	p.wantEnds(t, "9s 2a")
	p.wantSlot(t, api.Slot{Number: 7, Line: 1, Minute: 3, Attempt: 2, From: 8})
	p.wantStep(t, 1, 1)
	p.wantStep(t, 6, 1)
	p.wantStart(t, 8, "", api.OK)
	p.wantStart(t, 4, "", api.OK)
	length = len(p.box.Log())
	p.wantTick(t, 20, 0, api.OK)
	p.wantFrames(t, length, "C\x00\x00\x00\x00\x14", "F\x00\x01", "F\x00\x04", "F\x00\x06", "F\x00\x08")
	p.wantEnds(t, "9s 2a 4a 6a 8a")
	p.wantSlot(t, api.Slot{Number: 1, Line: 1, Minute: 0, Attempt: 2, From: 22})
}

// A slot that fails makes no place for what comes due in the same call.
func TestSkippedBeforeGivenUp(t *testing.T) {
	p := begin(t, 1, 4000, "* * * * * oa1 <a")
	p.wantTick(t, 1, 1, api.OK)
	p.wantTick(t, 8, 7, api.OK)
	p.wantStart(t, 3, "", api.OK)
	p.wantTick(t, 12, 4, api.OK)
	p.wantEnds(t, "9s 10s 11s 12s 3a")
	p.wantTick(t, 13, 1, api.OK)
	p.wantSlot(t, api.Slot{Number: 13, Line: 1, Minute: 13, Attempt: 1, From: 13})
}

// The room must do for all changes of the call, or none is made.
func TestJustRoomToFail(t *testing.T) {
	for left := 0; left <= 30; left++ {
		p := lacking(t, 2, 18+left, []int{0}, onNewYear+"oa2 <a", onNewYear+"oa1 <a", "3 0 1 1 * oa1 >b")
		p.wantStart(t, 1, "", api.OK)
		p.wantStart(t, 2, "", api.OK)
		if left == 30 {
			p.wantTick(t, 3, 1, api.OK)
			p.wantEnds(t, "2a")
			p.wantSlot(t, api.Slot{Number: 1, Line: 1, Attempt: 2, From: 5})
			continue
		}
		p.wantTick(t, 3, 0, api.ErrRoom)
		p.wantStep(t, 1, 1)
		p.wantStep(t, 2, 1)
		if left >= 12 {
			p.wantTick(t, 2, 0, api.OK)
		}
	}
}

// Behind the last minute no attempt can come any more.
func TestNotAnsweredAtTheLastMinute(t *testing.T) {
	p := begin(t, 1, 4000, "56 23 31 12 * oa5 <a")
	p.wantTick(t, lastMinute-3, 1, api.OK)
	p.wantStart(t, 1, "", api.OK)
	p.wantTick(t, lastMinute-1, 0, api.OK)
	p.wantStep(t, 1, 1)
	p.wantTick(t, lastMinute, 0, api.OK)
	p.wantSlot(t, api.Slot{Number: 1, Line: 1, Minute: lastMinute - 3, Attempt: 2, From: lastMinute + 2})
	p.wantStart(t, 1, "", api.ErrEarly)
	p.wantTick(t, lastMinute+1, 0, api.ErrNumber)
	p.wantTick(t, lastMinute+2, 0, api.ErrNumber)
	p.wantCancel(t, 1, api.OK)
}
