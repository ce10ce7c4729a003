package state

import "bellman/api"

// Unanswered are the numbers of the slots that run and have not been answered
// for too long, rising.
func (s State) Unanswered() []int {
	numbers := []int{}
	for i := 0; i < len(s.Slots); i++ {
		slot := s.Slots[i]
		if slot.Step > 0 && s.Clock-api.Patience >= slot.Answered {
			numbers = append(numbers, slot.Number)
		}
	}
	return numbers
}

// WithFail is the change Fail.
func (s State) WithFail(number int) (State, api.Errno) {
	slot, found := s.find(number)
	if !found {
		return State{}, api.ErrSlot
	}
	if slot.Step == 0 {
		return State{}, api.ErrState
	}
	if slot.Attempt >= s.attempts(slot.Line) {
		return s.ended(number, givenUp), api.OK
	}
	from := s.Clock + delay(slot.Attempt)
	again := Slot{
		Number:  slot.Number,
		Line:    slot.Line,
		Minute:  slot.Minute,
		Attempt: slot.Attempt + 1,
		From:    from,
	}
	after := s
	after.Slots = replaced(s.Slots, again)
	return after, api.OK
}

func (s State) find(number int) (Slot, bool) {
	for i := 0; i < len(s.Slots); i++ {
		if s.Slots[i].Number == number {
			return s.Slots[i], true
		}
	}
	return Slot{}, false
}

// attempts is 0 for what is no line.
func (s State) attempts(line int) int {
	lines := s.lines()
	if line < 1 || line > len(lines) {
		return 0
	}
	return lines[line-1].Options.Attempts
}

// delay doubles from attempt to attempt, up to the greatest one.
func delay(attempt int) int {
	minutes := 1
	for i := 0; i < attempt && minutes < api.MaxDelay; i++ {
		minutes = minutes * 2
	}
	if minutes > api.MaxDelay {
		return api.MaxDelay
	}
	return minutes
}
