package bellman_test

import (
	"encoding/binary"
	"hash/crc32"
	"io"
	"slices"
	"strings"

	"bellman/api"
)

// mark is what a box must be like that is opened of the first bytes of the
// log: all of them are in right frames.
type mark struct {
	bytes int
	model *modelBox
}

// mark is called behind each change.
func (x *modelBox) mark() {
	x.marks = append(x.marks, mark{bytes: len(x.log), model: x.interrupted()})
}

// interrupted is another model, with a log of one frame.
func (x *modelBox) interrupted() *modelBox {
	y := newModel(x.limit, x.room)
	y.tab, y.lines, y.clock, y.next = x.tab, x.lines, x.clock, x.next
	y.slots = slices.Clone(x.slots)
	for i := range y.slots {
		y.slots[i].Step = 0
	}
	y.ends = slices.Clone(x.ends)
	y.compact()
	return y
}

func (x *modelBox) compact() int {
	x.log = nil
	x.frame(x.whole())
	return len(x.log)
}

// whole is the body of a Z.
func (x *modelBox) whole() []byte {
	body := []byte("Z")
	five := func(m int) {
		eight := binary.BigEndian.AppendUint64(nil, uint64(m))
		body = append(body, eight[3:]...)
	}
	five(x.clock + 1)
	body = binary.BigEndian.AppendUint16(body, uint16(x.next))
	body = binary.BigEndian.AppendUint16(body, uint16(len(x.tab)))
	body = append(body, x.tab...)
	body = append(body, byte(len(x.slots)))
	for _, s := range x.slots {
		body = binary.BigEndian.AppendUint16(body, uint16(s.Number))
		body = append(body, byte(s.Line))
		five(s.Minute)
		body = append(body, byte(s.Attempt))
		five(s.From)
		body = append(body, byte(min(s.Step, 1)))
	}
	body = append(body, byte(len(x.ends)))
	for _, end := range x.ends {
		body = binary.BigEndian.AppendUint16(body, uint16(end.Number))
		body = append(body, end.How...)
	}
	return body
}

func modelOpen(limit, room int, log string) (*modelBox, int, api.Errno) {
	if limit < 1 || limit > 4 || room < 600 || room > 4000 {
		return nil, 0, api.ErrNumber
	}
	if len(log) > 4000 {
		return nil, 0, api.ErrLong
	}
	x := newModel(limit, room)
	right := 0
	for {
		body, whole := firstBody(log[right:])
		if !whole || !x.replay(body, right == 0) {
			return x.interrupted(), right, api.OK
		}
		right += len(body) + 6
	}
}

// firstBody: of the first frame, if that is whole and its check is right.
func firstBody(log string) (string, bool) {
	if len(log) < 6 {
		return "", false
	}
	length := int(log[0])<<8 | int(log[1])
	if len(log) < length+6 {
		return "", false
	}
	body := log[2 : 2+length]
	check := binary.BigEndian.Uint32([]byte(log[2+length:]))
	return body, check == crc32.ChecksumIEEE([]byte(body))
}

// replay does what a body says, if that may be.
func (x *modelBox) replay(body string, first bool) bool {
	switch {
	case body == "":
		return false
	case body[0] == 'T':
		_, errno := modelCheck(body[1:])
		if errno != api.OK || len(x.slots) > 0 {
			return false
		}
		x.keep(body[1:])
		return true
	case body[0] == 'Z':
		if !first {
			return false
		}
		y, why := stateOf(body)
		if why != "" {
			return false
		}
		y.limit, y.room = x.limit, x.room
		*x = *y
		return true
	case body[0] == 'C' && len(body) == 6:
		m := int(binary.BigEndian.Uint64([]byte("\x00\x00\x00" + body[1:])))
		all, errno := x.new(m)
		if errno != api.OK {
			return false
		}
		x.arrive(all)
		x.clock = m
		return true
	case len(body) == 3:
		s := x.slot(int(body[1])<<8 | int(body[2]))
		return s != nil && x.replaySlot(body[0], s)
	}
	return false
}

func (x *modelBox) replaySlot(letter byte, s *api.Slot) bool {
	switch {
	case letter == 'K':
		x.end(s.Number, "k")
	case letter == 'S' && s.Step == 0 && s.From <= x.clock && !(x.lines[s.Line-1].alone && x.running(s.Line) > 0):
		s.Step = 1
	case letter == 'D' && s.Step == 1:
		x.end(s.Number, "d")
	case letter == 'F' && s.Step == 1:
		x.fail(s)
	default:
		return false
	}
	return true
}

// stateOf is the state of a Z, or the reason why it is none.
func stateOf(body string) (*modelBox, string) {
	r := strings.NewReader(body[1:])
	lacking := false
	text := func(size int) string {
		bytes := make([]byte, size)
		if n, _ := io.ReadFull(r, bytes); n < size {
			lacking = true
		}
		return string(bytes)
	}
	number := func(size int) int {
		return int(binary.BigEndian.Uint64([]byte(strings.Repeat("\x00", 8-size) + text(size))))
	}
	x := newModel(4, 4000)
	x.clock = number(5) - 1
	x.next = number(2)
	x.tab = text(number(2))
	for i := number(1); i > 0; i-- {
		x.slots = append(x.slots, api.Slot{Number: number(2), Line: number(1), Minute: number(5), Attempt: number(1), From: number(5), Step: number(1)})
	}
	for i := number(1); i > 0; i-- {
		x.ends = append(x.ends, api.End{Number: number(2), How: text(1)})
	}
	switch {
	case lacking:
		return nil, "a part is lacking"
	case string(x.whole()) != body:
		return nil, "not as it would be written"
	}
	return x, x.wrong()
}

// wrong is the reason why a state that was read may not be.
func (x *modelBox) wrong() string {
	_, errno := modelCheck(x.tab)
	switch {
	case x.clock > 4223371679:
		return "the clock is no minute"
	case x.next < 1 || x.next > 10000:
		return "no next number"
	case errno != api.OK:
		return "no crontab"
	case len(x.slots) > 8:
		return "too many slots"
	case len(x.ends) > 6:
		return "too many ends"
	}
	x.keep(x.tab)
	numbers := map[int]bool{}
	for i, s := range x.slots {
		if i > 0 && s.Number <= x.slots[i-1].Number {
			return "slots that do not rise"
		}
		if why := x.wrongSlot(s); why != "" {
			return why
		}
		numbers[s.Number] = true
	}
	for _, end := range x.ends {
		switch {
		case end.Number < 1 || end.Number >= x.next:
			return "an end's number"
		case numbers[end.Number]:
			return "a number twice"
		case !strings.Contains("daks", end.How):
			return "no way to end"
		}
		numbers[end.Number] = true
	}
	return ""
}

func (x *modelBox) wrongSlot(s api.Slot) string {
	switch {
	case s.Number < 1 || s.Number >= x.next:
		return "a slot's number"
	case s.Line < 1 || s.Line > len(x.lines):
		return "no line"
	case s.Minute > x.clock:
		return "a minute to come"
	case s.Attempt < 1 || s.Attempt > x.lines[s.Line-1].attempts:
		return "no attempt"
	case s.Attempt == 1 && s.From != s.Minute:
		return "from of the first attempt"
	case s.Attempt > 1 && (s.From <= s.Minute || s.From > x.clock+10):
		return "from of a later attempt"
	case s.Step > 0 && s.From > x.clock:
		return "runs too early"
	case s.Step > 0 && x.lines[s.Line-1].alone && x.running(s.Line) > 1:
		return "runs beside another"
	}
	return ""
}
