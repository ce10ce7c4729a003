package state

import (
	"bellman/api"
	"bellman/crontab"
)

// MayBe tells whether a state that was read somewhere is one that a box may
// have.
func (s State) MayBe() bool {
	if s.Clock < -1 || s.Clock > api.MaxMinute {
		return false
	}
	if s.Next < 1 || s.Next > api.MaxId+1 {
		return false
	}
	reading := crontab.Read(s.Tab)
	if reading.Errno != api.OK {
		return false
	}
	if !s.slotsMayBe() {
		return false
	}
	return s.endsMayBe()
}

func (s State) slotsMayBe() bool {
	if len(s.Slots) > api.MaxSlots {
		return false
	}
	last := 0
	for i := 0; i < len(s.Slots); i++ {
		slot := s.Slots[i]
		if slot.Number <= last || slot.Number >= s.Next {
			return false
		}
		if !s.slotMayBe(slot) {
			return false
		}
		last = slot.Number
	}
	return true
}

// slotMayBe: of what is no line, no attempt may be.
func (s State) slotMayBe(slot Slot) bool {
	line := s.line(slot.Line)
	if slot.Attempt < 1 || slot.Attempt > line.Options.Attempts {
		return false
	}
	if slot.Minute > s.Clock {
		return false
	}
	if !s.fromMayBe(slot) {
		return false
	}
	if !slot.Runs() {
		return true
	}
	if slot.From > s.Clock {
		return false
	}
	return !line.Options.Alone || s.runningOf(slot.Line) == 1
}

func (s State) fromMayBe(slot Slot) bool {
	if slot.Attempt == 1 {
		return slot.From == slot.Minute
	}
	return slot.From > slot.Minute && slot.From <= s.Clock+api.MaxDelay
}

func (s State) endsMayBe() bool {
	if len(s.Ends) > api.MaxEnds {
		return false
	}
	for i := 0; i < len(s.Ends); i++ {
		end := s.Ends[i]
		if end.Number < 1 || end.Number >= s.Next {
			return false
		}
		if !isHow(end.How) {
			return false
		}
		if s.times(end.Number) != 1 {
			return false
		}
	}
	return true
}

func isHow(how string) bool {
	switch how {
	case done, givenUp, calledOff, skipped:
		return true
	}
	return false
}

// times is how often a number stands among the slots and the ends.
func (s State) times(number int) int {
	count := 0
	for i := 0; i < len(s.Slots); i++ {
		if s.Slots[i].Number == number {
			count++
		}
	}
	for i := 0; i < len(s.Ends); i++ {
		if s.Ends[i].Number == number {
			count++
		}
	}
	return count
}
