package crontab

import "bellman/api"

const (
	minuteField  = 0
	hourField    = 1
	dayField     = 2
	monthField   = 3
	weekdayField = 4
	fieldCount   = 5

	optionsPiece = fieldCount
	firstStep    = optionsPiece + 1
)

var leastValues = [fieldCount]int{0, 0, 1, 1, 0}

var greatestValues = [fieldCount]int{59, 23, 31, 12, 6}

// line has the fields alone: options and steps do not say when it is due.
type line struct {
	fields [fieldCount]field
}

// readLine takes a line without its newline.
func readLine(text string) (line, bool) {
	pieces := split(text, ' ')
	if len(pieces) <= firstStep || len(pieces) > firstStep+api.MaxSteps {
		return line{}, false
	}
	l := line{}
	for i := 0; i < fieldCount; i++ {
		f, ok := readField(pieces[i], leastValues[i], greatestValues[i])
		if !ok {
			return line{}, false
		}
		l.fields[i] = f
	}
	if !isOptions(pieces[optionsPiece]) {
		return line{}, false
	}
	for i := firstStep; i < len(pieces); i++ {
		if !isStep(pieces[i]) {
			return line{}, false
		}
	}
	return l, true
}

func isOptions(text string) bool {
	if len(text) != 3 {
		return false
	}
	if text[0] != 'x' && text[0] != 'o' {
		return false
	}
	if text[1] != 'a' && text[1] != 'l' && text[1] != 'n' {
		return false
	}
	return text[2] >= '1' && text[2] <= '5'
}

func isStep(text string) bool {
	if len(text) < 2 || len(text) > 1+api.MaxWord {
		return false
	}
	if text[0] != '>' && text[0] != '<' {
		return false
	}
	for i := 1; i < len(text); i++ {
		if !isWordByte(text[i]) {
			return false
		}
	}
	return true
}

func isWordByte(b byte) bool {
	if b >= 'a' && b <= 'z' {
		return true
	}
	if b >= 'A' && b <= 'Z' {
		return true
	}
	return isDigit(b)
}

func (l line) due(date api.Date) bool {
	if !l.fields[minuteField].holds(date.Minute) {
		return false
	}
	if !l.fields[hourField].holds(date.Hour) {
		return false
	}
	if !l.fields[monthField].holds(date.Month) {
		return false
	}
	return l.dueOnDay(date)
}

// dueOnDay asks for both, the day and the weekday, if one of them is open, so
// that a field of * alone does not make the other one idle.
func (l line) dueOnDay(date api.Date) bool {
	day := l.fields[dayField].holds(date.Day)
	weekday := l.fields[weekdayField].holds(date.Weekday)
	if l.fields[dayField].open || l.fields[weekdayField].open {
		return day && weekday
	}
	return day || weekday
}
