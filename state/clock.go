package state

import (
	"bellman/api"
	"bellman/calendar"
	"bellman/crontab"
)

// arrival is a line at a minute that counts.
type arrival struct {
	line, minute int
}

// WithClock is the change Clock.
func (s State) WithClock(m int) (State, api.Errno) {
	if m < 0 || m > api.MaxMinute {
		return State{}, api.ErrNumber
	}
	if !s.ahead(m) {
		return State{}, api.ErrClock
	}
	lines := s.lines()
	first := s.firstNew(m)
	arrivals := latestFirst(lines, first, m)
	if s.Next+len(arrivals) > api.MaxId+1 {
		return State{}, api.ErrIds
	}
	after := s
	for i := len(arrivals) - 1; i >= 0; i-- {
		after = after.withArrival(arrivals[i])
	}
	after.Clock = m
	return after, api.OK
}

func (s State) ahead(m int) bool {
	if m <= s.Clock {
		return false
	}
	return s.Clock == -1 || m-s.Clock <= api.MaxJump
}

// firstNew is m itself if the clock has not been set: nothing was missed.
func (s State) firstNew(m int) int {
	if s.Clock == -1 {
		return m
	}
	return s.Clock + 1
}

// latestFirst lists what counts from the minute m down to the first one, as
// the last minute of a line with l is then the one that is met first.
func latestFirst(lines []crontab.Line, first int, m int) []arrival {
	arrivals := []arrival{}
	met := [api.MaxLines]bool{}
	for minute := m; minute >= first; minute-- {
		date, errno := calendar.Date(minute)
		if errno != api.OK {
			return arrivals
		}
		for i := len(lines) - 1; i >= 0; i-- {
			if i >= api.MaxLines || !lines[i].Due(date) {
				continue
			}
			if counts(lines[i], minute == m, met[i]) {
				arrivals = append(arrivals, arrival{line: i + 1, minute: minute})
			}
			met[i] = true
		}
	}
	return arrivals
}

// counts: of a minute at which the line is due, whether it is the one of the
// clock, and whether the line is due at a later one too.
func counts(line crontab.Line, now bool, later bool) bool {
	switch line.Options.Counting {
	case crontab.Last:
		return !later
	case crontab.Now:
		return now
	}
	return true
}

// withArrival gives the next number, to a slot or to what has ended at once.
func (s State) withArrival(a arrival) State {
	number := s.Next
	after := s
	after.Next = number + 1
	if len(s.Slots) >= api.MaxSlots {
		after.Ends = withEnd(s.Ends, api.End{Number: number, How: skipped})
		return after
	}
	slot := Slot{Number: number, Line: a.line, Minute: a.minute, Attempt: 1, From: a.minute}
	after.Slots = withSlot(s.Slots, slot)
	return after
}
