package bellman

import (
	"bellman/api"
	"bellman/crontab"
	"bellman/frame"
	"bellman/state"
)

// Box is a box with its log.
type Box struct {
	limit int
	room  int
	state state.State
	log   string
}

// New makes a box (P5).
func New(limit int, room int) (*Box, api.Errno) {
	if limit < 1 || limit > api.MaxLimit {
		return nil, api.ErrNumber
	}
	if room < api.MinRoom || room > api.MaxRoom {
		return nil, api.ErrNumber
	}
	return &Box{limit: limit, room: room, state: state.First()}, api.OK
}

// Load gives the box a crontab (P7).
func (b *Box) Load(tab string) (int, api.Errno) {
	wrong, errno := crontab.Check(tab)
	if errno != api.OK {
		return wrong, errno
	}
	after, errno := b.state.WithTab(tab)
	if errno != api.OK {
		return 0, errno
	}
	frames := frame.Tab(tab)
	return 0, b.commit(after, frames)
}

// Tick tells the box what minute it is (P8).
func (b *Box) Tick(m int) (int, api.Errno) {
	after, errno := b.state.WithClock(m)
	if errno != api.OK {
		return 0, errno
	}
	given := after.Next - b.state.Next
	frames := frame.Clock(m)
	unanswered := after.Unanswered()
	for i := 0; i < len(unanswered); i++ {
		failed, mayNot := after.WithFail(unanswered[i])
		if mayNot == api.OK {
			after = failed
			frames = frames + frame.Fail(unanswered[i])
		}
	}
	errno = b.commit(after, frames)
	if errno != api.OK {
		return 0, errno
	}
	return given, api.OK
}

// commit is the one place where a call's changes are kept, all of them or, for
// want of room, none.
func (b *Box) commit(after state.State, frames string) api.Errno {
	if len(b.log)+len(frames) > b.room {
		return api.ErrRoom
	}
	b.state = after
	b.log = b.log + frames
	return api.OK
}

// Look tells how the box stands (P6).
func (b *Box) Look() api.View { return b.state.Look() }

// Slot tells of a slot (P6).
func (b *Box) Slot(i int) (api.Slot, api.Errno) { return b.state.Slot(i) }

// End tells of an end (P6).
func (b *Box) End(i int) (api.End, api.Errno) { return b.state.End(i) }

// Log gives the log (P6).
func (b *Box) Log() string { return b.log }
