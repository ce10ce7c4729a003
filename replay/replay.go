// Package replay tells what a log says (P13).
package replay

import (
	"bellman/api"
	"bellman/frame"
	"bellman/state"
)

// Read answers the state that comes of a log, and how many bytes of it are in
// frames that were right. It stops at the first one that is not: what stands
// behind it was said of a state that is not known.
func Read(log string) (state.State, int) {
	s := state.First()
	at := 0
	for at < len(log) {
		content, whole := frame.Take(log[at:])
		if !whole {
			return s, at
		}
		after, may := behind(s, content, at == 0)
		if !may {
			return s, at
		}
		s = after
		at = at + content.Size
	}
	return s, at
}

// behind is the state behind a frame, if the frame may be there.
func behind(s state.State, content frame.Content, first bool) (state.State, bool) {
	if content.Kind == frame.KindWhole {
		may := first && content.State.MayBe()
		return content.State, may
	}
	after, errno := change(s, content)
	return after, errno == api.OK
}

// change asks for neither limit nor room: a box with others may have written
// the log.
func change(s state.State, content frame.Content) (state.State, api.Errno) {
	switch content.Kind {
	case frame.KindTab:
		return s.WithTab(content.Tab)
	case frame.KindClock:
		return s.WithClock(content.Number)
	case frame.KindStart:
		return s.WithStart(content.Number)
	case frame.KindDone:
		return s.WithDone(content.Number)
	case frame.KindFail:
		return s.WithFail(content.Number)
	case frame.KindCancel:
		return s.WithCancel(content.Number)
	}
	return state.State{}, api.ErrState
}
