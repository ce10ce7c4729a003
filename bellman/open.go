package bellman

import (
	"bellman/api"
	"bellman/frame"
	"bellman/replay"
)

// Open makes a box of a log, or of what is left of it (P13).
func Open(limit int, room int, log string) (*Box, int, api.Errno) {
	b, errno := New(limit, room)
	if errno != api.OK {
		return nil, 0, errno
	}
	if len(log) > api.MaxRoom {
		return nil, 0, api.ErrLong
	}
	said, right := replay.Read(log)
	b.state = said.Interrupted()
	b.log = frame.Whole(b.state)
	return b, right, api.OK
}

// Compact makes the log short (P12). A whole state always has room: at its
// greatest it is shorter than the least room.
func (b *Box) Compact() int {
	b.log = frame.Whole(b.state)
	return len(b.log)
}
