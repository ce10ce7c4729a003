package frame

import (
	"bellman/api"
	"bellman/state"
)

func readState(p *parts) state.State {
	clock := p.number(minuteSize) - 1
	next := p.number(numberSize)
	length := p.number(lengthSize)
	tab := p.text(length)
	slots := readSlots(p)
	ends := readEnds(p)
	return state.State{Tab: tab, Clock: clock, Next: next, Slots: slots, Ends: ends}
}

func readSlots(p *parts) []state.Slot {
	count := p.number(smallSize)
	slots := []state.Slot{}
	for i := 0; i < count && !p.wrong; i++ {
		slot := readSlot(p)
		slots = append(slots, slot)
	}
	return slots
}

// readSlot lets a slot that runs be at its first step, as the log does not
// tell at which one it was.
func readSlot(p *parts) state.Slot {
	slot := state.Slot{}
	slot.Number = p.number(numberSize)
	slot.Line = p.number(smallSize)
	slot.Minute = p.number(minuteSize)
	slot.Attempt = p.number(smallSize)
	slot.From = p.number(minuteSize)
	mark := p.number(smallSize)
	if mark == runsMark {
		slot.Step = 1
	} else if mark != waitsMark {
		p.wrong = true
	}
	return slot
}

func readEnds(p *parts) []api.End {
	count := p.number(smallSize)
	ends := []api.End{}
	for i := 0; i < count && !p.wrong; i++ {
		number := p.number(numberSize)
		how := p.text(smallSize)
		ends = append(ends, api.End{Number: number, How: how})
	}
	return ends
}
