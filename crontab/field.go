package crontab

// field is open if it begins with *, whatever its later parts are.
type field struct {
	open  bool
	parts []part
}

// part holds first, first + every, first + 2*every and so on, up to last.
type part struct {
	first, last, every int
}

func readField(text string, least int, greatest int) (field, bool) {
	f := field{open: len(text) > 0 && text[0] == '*'}
	texts := split(text, ',')
	for i := 0; i < len(texts); i++ {
		p, ok := readPart(texts[i], least, greatest)
		if !ok {
			return field{}, false
		}
		f.parts = append(f.parts, p)
	}
	return f, true
}

// readPart allows a step behind * and a-b, but not behind one number.
func readPart(text string, least int, greatest int) (part, bool) {
	values, step, stepped := cut(text, '/')
	if !stepped {
		return readValues(values, least, greatest)
	}
	if isDigits(values) {
		return part{}, false
	}
	p, ok := readValues(values, least, greatest)
	if !ok {
		return part{}, false
	}
	every, ok := readNumber(step)
	if !ok || every < 1 {
		return part{}, false
	}
	p.every = every
	return p, true
}

// readValues reads *, a or a-b: what a part is without its step.
func readValues(text string, least int, greatest int) (part, bool) {
	if text == "*" {
		return part{first: least, last: greatest, every: 1}, true
	}
	from, to, ranged := cut(text, '-')
	if !ranged {
		to = from
	}
	first, ok := readNumber(from)
	if !ok || first < least {
		return part{}, false
	}
	last, ok := readNumber(to)
	if !ok || last < first || last > greatest {
		return part{}, false
	}
	return part{first: first, last: last, every: 1}, true
}

func readNumber(text string) (int, bool) {
	if len(text) < 1 || len(text) > 2 || !isDigits(text) {
		return 0, false
	}
	number := 0
	for i := 0; i < len(text); i++ {
		number = number*10 + int(text[i]-'0')
	}
	return number, true
}

func (f field) holds(value int) bool {
	for i := 0; i < len(f.parts); i++ {
		if f.parts[i].holds(value) {
			return true
		}
	}
	return false
}

func (p part) holds(value int) bool {
	if value < p.first || value > p.last {
		return false
	}
	if p.every < 1 {
		return false
	}
	return (value-p.first)%p.every == 0
}
