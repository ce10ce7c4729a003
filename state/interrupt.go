package state

// Interrupted is the state in which every slot that runs waits instead.
func (s State) Interrupted() State {
	slots := []Slot{}
	for i := 0; i < len(s.Slots); i++ {
		slot := s.Slots[i].waiting()
		slots = append(slots, slot)
	}
	after := s
	after.Slots = slots
	return after
}
