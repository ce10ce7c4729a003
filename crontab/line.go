package crontab

import "bellman/api"

const (
	minuteField  = 0
	hourField    = 1
	dayField     = 2
	monthField   = 3
	weekdayField = 4
	fieldCount   = 5

	optionsPiece = fieldCount
	firstStep    = optionsPiece + 1
)

var leastValues = [fieldCount]int{0, 0, 1, 1, 0}

var greatestValues = [fieldCount]int{59, 23, 31, 12, 6}

// Which of the minutes at which a line is due count, when the clock goes on.
const (
	All  = 'a'
	Last = 'l'
	Now  = 'n'
)

// Line is what a box needs to know of a line.
type Line struct {
	fields  [fieldCount]field
	Options Options
	Steps   []Step
}

// Options: Alone: no two slots of the line run at once. Counting is All, Last
// or Now.
type Options struct {
	Alone    bool
	Counting byte
	Attempts int
}

// readLine takes a line without its newline.
func readLine(text string) (Line, bool) {
	pieces := split(text, ' ')
	if len(pieces) <= firstStep || len(pieces) > firstStep+api.MaxSteps {
		return Line{}, false
	}
	l := Line{}
	for i := 0; i < fieldCount; i++ {
		f, ok := readField(pieces[i], leastValues[i], greatestValues[i])
		if !ok {
			return Line{}, false
		}
		l.fields[i] = f
	}
	options, ok := readOptions(pieces[optionsPiece])
	if !ok {
		return Line{}, false
	}
	l.Options = options
	for i := firstStep; i < len(pieces); i++ {
		step, isStep := readStep(pieces[i])
		if !isStep {
			return Line{}, false
		}
		l.Steps = append(l.Steps, step)
	}
	return l, true
}

func readOptions(text string) (Options, bool) {
	if len(text) != 3 {
		return Options{}, false
	}
	if text[0] != 'x' && text[0] != 'o' {
		return Options{}, false
	}
	if text[1] != All && text[1] != Last && text[1] != Now {
		return Options{}, false
	}
	if text[2] < '1' || text[2] > '5' {
		return Options{}, false
	}
	return Options{Alone: text[0] == 'x', Counting: text[1], Attempts: int(text[2] - '0')}, true
}

// Due tells whether the line is due at the minute of this date.
func (l Line) Due(date api.Date) bool {
	if !l.fields[minuteField].holds(date.Minute) {
		return false
	}
	if !l.fields[hourField].holds(date.Hour) {
		return false
	}
	if !l.fields[monthField].holds(date.Month) {
		return false
	}
	return l.dueOnDay(date)
}

// dueOnDay asks for both, the day and the weekday, if one of them is open, so
// that a field of * alone does not make the other one idle.
func (l Line) dueOnDay(date api.Date) bool {
	day := l.fields[dayField].holds(date.Day)
	weekday := l.fields[weekdayField].holds(date.Weekday)
	if l.fields[dayField].open || l.fields[weekdayField].open {
		return day && weekday
	}
	return day || weekday
}
