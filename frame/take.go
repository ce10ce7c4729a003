package frame

import "bellman/state"

// Content is what a frame tells: of which kind it is and, as its kind asks, a
// crontab, a minute or the number of a slot, or a whole state. Size is how many
// bytes the frame has.
type Content struct {
	Kind   string
	Tab    string
	Number int
	State  state.State
	Size   int
}

// Take takes the first frame of a log, if it is whole, its check is right and
// its body has the form of its kind. Whether what it tells may be is not asked.
func Take(log string) (Content, bool) {
	p := &parts{rest: log}
	length := p.number(lengthSize)
	body := p.text(length)
	check := p.number(checkSize)
	if p.wrong {
		return Content{}, false
	}
	sum := Sum(body)
	if check != sum {
		return Content{}, false
	}
	content, ok := readBody(body)
	if !ok {
		return Content{}, false
	}
	content.Size = lengthSize + length + checkSize
	return content, true
}

func readBody(body string) (Content, bool) {
	p := &parts{rest: body}
	content := Content{}
	content.Kind = p.text(kindSize)
	switch content.Kind {
	case KindTab:
		length := len(p.rest)
		content.Tab = p.text(length)
	case KindClock:
		content.Number = p.number(minuteSize)
	case KindStart, KindDone, KindFail, KindCancel:
		content.Number = p.number(numberSize)
	case KindWhole:
		content.State = readState(p)
	default:
		return Content{}, false
	}
	right := p.right()
	return content, right
}
