package frame

import (
	"bellman/api"
	"bellman/state"
)

const (
	waitsMark = 0
	runsMark  = 1
)

// Whole is the frame of a whole state (P12).
func Whole(s state.State) string {
	clock := digits(s.Clock+1, minuteSize)
	next := digits(s.Next, numberSize)
	length := digits(len(s.Tab), lengthSize)
	slots := slotsPart(s.Slots)
	ends := endsPart(s.Ends)
	return framed(KindWhole + clock + next + length + s.Tab + slots + ends)
}

func slotsPart(slots []state.Slot) string {
	text := digits(len(slots), smallSize)
	for i := 0; i < len(slots); i++ {
		slot := slotPart(slots[i])
		text = text + slot
	}
	return text
}

func slotPart(slot state.Slot) string {
	number := digits(slot.Number, numberSize)
	line := digits(slot.Line, smallSize)
	minute := digits(slot.Minute, minuteSize)
	attempt := digits(slot.Attempt, smallSize)
	from := digits(slot.From, minuteSize)
	mark := waitsMark
	if slot.Runs() {
		mark = runsMark
	}
	runs := digits(mark, smallSize)
	return number + line + minute + attempt + from + runs
}

func endsPart(ends []api.End) string {
	text := digits(len(ends), smallSize)
	for i := 0; i < len(ends); i++ {
		number := digits(ends[i].Number, numberSize)
		text = text + number + ends[i].How
	}
	return text
}
