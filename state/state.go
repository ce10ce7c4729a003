// Package state has the state of a box and the changes that turn it into
// another one. A change that may not be is answered with the reason.
package state

import (
	"bellman/api"
	"bellman/crontab"
)

// How a slot ended.
const (
	done      = "d"
	givenUp   = "a"
	calledOff = "k"
	skipped   = "s"
)

// State is never changed in place: a change answers a new one, so that a call
// can be given up as long as nothing of it has been kept.
type State struct {
	Tab   string
	Clock int
	Next  int
	Slots []Slot
	Ends  []api.End
}

// Slot: Step is 0, if it waits. Answered, if it runs: the minute that the
// clock showed when it was started, or when last a word was found. Heard: what
// of all that was heard may still become part of a word.
type Slot struct {
	Number, Line, Minute, Attempt, From, Step int
	Answered                                  int
	Heard                                     string
}

// Runs tells whether it runs, or waits.
func (slot Slot) Runs() bool { return slot.Step > 0 }

// waiting is the slot with nothing left of what was being talked.
func (slot Slot) waiting() Slot {
	slot.Step = 0
	slot.Answered = 0
	slot.Heard = ""
	return slot
}

// First is the state at first.
func First() State {
	return State{Clock: -1, Next: 1}
}

// Look tells how the state stands.
func (s State) Look() api.View {
	return api.View{Clock: s.Clock, Next: s.Next, Slots: len(s.Slots), Ends: len(s.Ends), Tab: s.Tab}
}

// Slot tells of a slot, from 0 on.
func (s State) Slot(i int) (api.Slot, api.Errno) {
	if i < 0 || i >= len(s.Slots) {
		return api.Slot{}, api.ErrNumber
	}
	slot := s.Slots[i]
	shown := api.Slot{
		Number:  slot.Number,
		Line:    slot.Line,
		Minute:  slot.Minute,
		Attempt: slot.Attempt,
		From:    slot.From,
		Step:    slot.Step,
	}
	return shown, api.OK
}

// End tells of an end, from 0 on, the oldest first.
func (s State) End(i int) (api.End, api.Errno) {
	if i < 0 || i >= len(s.Ends) {
		return api.End{}, api.ErrNumber
	}
	return s.Ends[i], api.OK
}

// WithTab is the change Tab.
func (s State) WithTab(tab string) (State, api.Errno) {
	reading := crontab.Read(tab)
	if reading.Errno != api.OK {
		return State{}, reading.Errno
	}
	if len(s.Slots) > 0 {
		return State{}, api.ErrBusy
	}
	after := s
	after.Tab = tab
	return after, api.OK
}

func (s State) lines() []crontab.Line {
	reading := crontab.Read(s.Tab)
	return reading.Lines
}

// line answers a line without attempts and steps for what is none.
func (s State) line(number int) crontab.Line {
	lines := s.lines()
	if number < 1 || number > len(lines) {
		return crontab.Line{}
	}
	return lines[number-1]
}

func (s State) find(number int) (Slot, bool) {
	for i := 0; i < len(s.Slots); i++ {
		if s.Slots[i].Number == number {
			return s.Slots[i], true
		}
	}
	return Slot{}, false
}
