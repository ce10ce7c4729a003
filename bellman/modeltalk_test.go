package bellman_test

import (
	"slices"
	"strings"

	"bellman/api"
)

// modelTalk: all that was heard and not forgotten, and since when the slot
// has not been answered.
type modelTalk struct {
	heard string
	since int
}

// delays are the minutes from a failure at attempt 1, 2, 3 and 4 on.
var delays = []int{2, 4, 8, 10}

// slot is nil if there is none of this number.
func (x *modelBox) slot(number int) *api.Slot {
	for i := range x.slots {
		if x.slots[i].Number == number {
			return &x.slots[i]
		}
	}
	return nil
}

// running counts the slots that run, those of a line or (0) of all.
func (x *modelBox) running(line int) int {
	count := 0
	for _, s := range x.slots {
		if s.Step > 0 && (line == 0 || s.Line == line) {
			count++
		}
	}
	return count
}

func (x *modelBox) change(letter byte, number int) {
	x.frame([]byte{letter, byte(number >> 8), byte(number)})
}

func (x *modelBox) start(number int) (string, api.Errno) {
	s := x.slot(number)
	switch {
	case s == nil:
		return "", api.ErrSlot
	case s.Step > 0:
		return "", api.ErrState
	case s.From > x.clock:
		return "", api.ErrEarly
	case x.lines[s.Line-1].alone && x.running(s.Line) > 0:
		return "", api.ErrLock
	case x.running(0) >= x.limit:
		return "", api.ErrLimit
	}
	said := ""
	errno := x.ifRoom(func() {
		x.change('S', number)
		s.Step = 1
		x.talks[number] = modelTalk{since: x.clock}
		x.mark()
		said = x.say(s)
	})
	if errno != api.OK {
		return "", errno
	}
	return said, api.OK
}

// say goes on up to a step that hears, or past the last one.
func (x *modelBox) say(s *api.Slot) string {
	steps := x.lines[s.Line-1].steps
	said := ""
	for s.Step <= len(steps) && strings.HasPrefix(steps[s.Step-1], ">") {
		said += steps[s.Step-1][1:]
		s.Step++
	}
	if s.Step > len(steps) {
		x.change('D', s.Number)
		x.end(s.Number, "d")
		x.mark()
	}
	return said
}

func (x *modelBox) feed(number int, text string) (string, api.Errno) {
	s := x.slot(number)
	switch {
	case len(text) > 40:
		return "", api.ErrLong
	case s == nil:
		return "", api.ErrSlot
	case s.Step == 0:
		return "", api.ErrState
	}
	said := ""
	errno := x.ifRoom(func() {
		t := x.talks[number]
		t.heard += text
		x.talks[number] = t
		for x.slot(number) != nil {
			_, rest, found := strings.Cut(x.talks[number].heard, x.lines[s.Line-1].steps[s.Step-1][1:])
			if !found {
				return
			}
			x.talks[number] = modelTalk{heard: rest, since: x.clock}
			s.Step++
			said += x.say(s)
		}
	})
	if errno != api.OK {
		return "", errno
	}
	return said, api.OK
}

func (x *modelBox) cancel(number int) api.Errno {
	if x.slot(number) == nil {
		return api.ErrSlot
	}
	return x.ifRoom(func() {
		x.change('K', number)
		x.end(number, "k")
		x.mark()
	})
}

// lose lets fail what has not been answered for three minutes.
func (x *modelBox) lose() {
	for _, before := range slices.Clone(x.slots) {
		number := before.Number
		s := x.slot(number)
		if s.Step == 0 || x.clock < x.talks[number].since+3 {
			continue
		}
		x.change('F', number)
		x.fail(s)
		x.mark()
	}
}

func (x *modelBox) fail(s *api.Slot) {
	if s.Attempt == x.lines[s.Line-1].attempts {
		x.end(s.Number, "a")
		return
	}
	s.From = x.clock + delays[s.Attempt-1]
	s.Attempt++
	s.Step = 0
	delete(x.talks, s.Number)
}
