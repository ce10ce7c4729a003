package state

import "bellman/api"

// Unanswered are the numbers of the slots that run and have not been answered
// for too long, rising.
func (s State) Unanswered() []int {
	numbers := []int{}
	for i := 0; i < len(s.Slots); i++ {
		slot := s.Slots[i]
		if slot.Runs() && s.Clock-api.Patience >= slot.Answered {
			numbers = append(numbers, slot.Number)
		}
	}
	return numbers
}

// WithFail is the change Fail.
func (s State) WithFail(number int) (State, api.Errno) {
	slot, found := s.find(number)
	if !found {
		return State{}, api.ErrSlot
	}
	if !slot.Runs() {
		return State{}, api.ErrState
	}
	line := s.line(slot.Line)
	if slot.Attempt >= line.Options.Attempts {
		return s.ended(number, givenUp), api.OK
	}
	again := slot.waiting()
	again.Attempt = slot.Attempt + 1
	again.From = s.Clock + delay(slot.Attempt)
	after := s
	after.Slots = replaced(s.Slots, again)
	return after, api.OK
}

// delay doubles from attempt to attempt, up to the greatest one.
func delay(attempt int) int {
	minutes := 1
	for i := 0; i < attempt && minutes < api.MaxDelay; i++ {
		minutes = minutes * 2
	}
	if minutes > api.MaxDelay {
		return api.MaxDelay
	}
	return minutes
}
