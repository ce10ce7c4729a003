package state

import (
	"bellman/api"
	"bellman/crontab"
)

// Talk is what came of talking: the state then, what was said, and whether the
// slot has gone past its last step. If so it still runs, as the change Done is
// one of its own.
type Talk struct {
	State State
	Said  string
	Over  bool
}

// Hear lets a slot that runs hear a text and talk. One that has just been
// started hears the empty text: it says what comes before the first word that
// it waits for.
func (s State) Hear(number int, text string) (Talk, api.Errno) {
	slot, found := s.find(number)
	if !found {
		return Talk{}, api.ErrSlot
	}
	if !slot.Runs() {
		return Talk{}, api.ErrState
	}
	line := s.line(slot.Line)
	slot.Heard = slot.Heard + text
	talked, said := goOn(slot, line.Steps, s.Clock)
	after := s
	after.Slots = replaced(s.Slots, talked)
	return Talk{State: after, Said: said, Over: talked.Step > len(line.Steps)}, api.OK
}

// goOn goes from step to step, up to one whose word has not been heard.
func goOn(slot Slot, steps []crontab.Step, clock int) (Slot, string) {
	said := ""
	for i := slot.Step - 1; i >= 0 && i < len(steps); i++ {
		word := steps[i].Word
		if steps[i].Says {
			said = said + word
		} else {
			rest, found := behind(slot.Heard, word)
			if !found {
				slot.Heard = ending(slot.Heard, len(word)-1)
				return slot, said
			}
			slot.Heard = rest
			slot.Answered = clock
		}
		slot.Step++
	}
	return slot, said
}

// behind is what stands behind the first place of a word, if there is one.
func behind(text string, word string) (string, bool) {
	for start := 0; start+len(word) <= len(text); start++ {
		end := start + len(word)
		if text[start:end] == word {
			return text[end:], true
		}
	}
	return "", false
}

// ending is the end of a text that may be the beginning of a word: all before
// it would be forgotten with the word, and need not be kept.
func ending(text string, length int) string {
	if length < 0 || length >= len(text) {
		return text
	}
	return text[len(text)-length:]
}
