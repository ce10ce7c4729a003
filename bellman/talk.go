package bellman

import (
	"bellman/api"
	"bellman/frame"
	"bellman/state"
)

// Start starts a slot (P9).
func (b *Box) Start(number int) (string, api.Errno) {
	started, errno := b.state.WithStart(number)
	if errno != api.OK {
		return "", errno
	}
	if started.Running() > b.limit {
		return "", api.ErrLimit
	}
	talk, errno := started.Hear(number, "")
	if errno != api.OK {
		return "", errno
	}
	frames := frame.Start(number)
	return b.commitTalk(talk, number, frames)
}

// Feed tells a slot what is said to it (P10).
func (b *Box) Feed(number int, text string) (string, api.Errno) {
	if len(text) > api.MaxFeed {
		return "", api.ErrLong
	}
	talk, errno := b.state.Hear(number, text)
	if errno != api.OK {
		return "", errno
	}
	return b.commitTalk(talk, number, "")
}

// commitTalk puts the change Done behind the frames, if the talk is over.
func (b *Box) commitTalk(talk state.Talk, number int, frames string) (string, api.Errno) {
	after := talk.State
	if talk.Over {
		done, mayNot := after.WithDone(number)
		if mayNot != api.OK {
			return "", mayNot
		}
		after = done
		frames = frames + frame.Done(number)
	}
	errno := b.commit(after, frames)
	if errno != api.OK {
		return "", errno
	}
	return talk.Said, api.OK
}

// Cancel calls a slot off (P11).
func (b *Box) Cancel(number int) api.Errno {
	after, errno := b.state.WithCancel(number)
	if errno != api.OK {
		return errno
	}
	frames := frame.Cancel(number)
	return b.commit(after, frames)
}
