package state

import "bellman/api"

// WithStart is the change Start. The slot is at the first step of its line
// then, and has said nothing yet.
func (s State) WithStart(number int) (State, api.Errno) {
	slot, found := s.find(number)
	if !found {
		return State{}, api.ErrSlot
	}
	if slot.Runs() {
		return State{}, api.ErrState
	}
	if slot.From > s.Clock {
		return State{}, api.ErrEarly
	}
	if s.locked(slot.Line) {
		return State{}, api.ErrLock
	}
	started := slot
	started.Step = 1
	started.Answered = s.Clock
	after := s
	after.Slots = replaced(s.Slots, started)
	return after, api.OK
}

// locked: a slot of this line runs, and beside it no other one may.
func (s State) locked(number int) bool {
	line := s.line(number)
	if !line.Options.Alone {
		return false
	}
	return s.runningOf(number) > 0
}

// runningOf is how many slots of a line run.
func (s State) runningOf(number int) int {
	count := 0
	for i := 0; i < len(s.Slots); i++ {
		slot := s.Slots[i]
		if slot.Line == number && slot.Runs() {
			count++
		}
	}
	return count
}

// Running is how many slots run.
func (s State) Running() int {
	count := 0
	for i := 0; i < len(s.Slots); i++ {
		if s.Slots[i].Runs() {
			count++
		}
	}
	return count
}
