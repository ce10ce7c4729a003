package state

import "bellman/api"

// WithDone is the change Done.
func (s State) WithDone(number int) (State, api.Errno) {
	slot, found := s.find(number)
	if !found {
		return State{}, api.ErrSlot
	}
	if !slot.Runs() {
		return State{}, api.ErrState
	}
	return s.ended(number, done), api.OK
}

// WithCancel is the change Cancel.
func (s State) WithCancel(number int) (State, api.Errno) {
	slot, found := s.find(number)
	if !found {
		return State{}, api.ErrSlot
	}
	return s.ended(slot.Number, calledOff), api.OK
}

// ended is a state in which this number has ended and is no slot.
func (s State) ended(number int, how string) State {
	after := s
	after.Slots = without(s.Slots, number)
	after.Ends = withEnd(s.Ends, api.End{Number: number, How: how})
	return after
}
