package frame

// parts are what has not been taken of a text yet. Wrong: a part was lacking,
// or was not what it should be; a part that is lacking is read as nought.
type parts struct {
	rest  string
	wrong bool
}

func (p *parts) text(size int) string {
	if size < 0 || size > len(p.rest) {
		p.wrong = true
		return ""
	}
	part := p.rest[:size]
	p.rest = p.rest[size:]
	return part
}

func (p *parts) number(size int) int {
	part := p.text(size)
	number := 0
	for i := 0; i < len(part); i++ {
		number = number*256 + int(part[i])
	}
	return number
}

// right: all parts were there, and nothing stands behind them.
func (p *parts) right() bool {
	return !p.wrong && p.rest == ""
}
