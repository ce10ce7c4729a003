package state

import "bellman/api"

// The lists of a state are shared by the states that came of it: each of
// these functions makes a new one.

func withSlot(slots []Slot, slot Slot) []Slot {
	list := []Slot{}
	for i := 0; i < len(slots); i++ {
		list = append(list, slots[i])
	}
	return append(list, slot)
}

func without(slots []Slot, number int) []Slot {
	list := []Slot{}
	for i := 0; i < len(slots); i++ {
		if slots[i].Number != number {
			list = append(list, slots[i])
		}
	}
	return list
}

// replaced has the slot in the place of the one with its number.
func replaced(slots []Slot, slot Slot) []Slot {
	list := []Slot{}
	for i := 0; i < len(slots); i++ {
		if slots[i].Number == slot.Number {
			list = append(list, slot)
		} else {
			list = append(list, slots[i])
		}
	}
	return list
}

// withEnd keeps the last ends alone.
func withEnd(ends []api.End, end api.End) []api.End {
	list := []api.End{}
	for i := 0; i < len(ends); i++ {
		if i > len(ends)-api.MaxEnds {
			list = append(list, ends[i])
		}
	}
	return append(list, end)
}
