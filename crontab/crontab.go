// Package crontab reads crontabs and tells when their lines are due (P4).
package crontab

import (
	"bellman/api"
	"bellman/calendar"
)

// reading is what came of reading a crontab: its lines, or an error and the
// number of the line to blame (0: none alone).
type reading struct {
	lines []line
	wrong int
	errno api.Errno
}

// Check tells whether a text is a crontab, and if it has a wrong line, the
// first one.
func Check(tab string) (int, api.Errno) {
	r := read(tab)
	return r.wrong, r.errno
}

// Due tells whether a line of a crontab is due at a minute.
func Due(tab string, number int, m int) (bool, api.Errno) {
	r := read(tab)
	if r.errno != api.OK {
		return false, r.errno
	}
	if number < 1 || number > len(r.lines) {
		return false, api.ErrNumber
	}
	date, errno := calendar.Date(m)
	if errno != api.OK {
		return false, errno
	}
	due := r.lines[number-1].due(date)
	return due, api.OK
}

// read looks at the length and the count of lines first: they come before a
// wrong line, and bound the work on a text of any size.
func read(tab string) reading {
	if len(tab) > api.MaxTab {
		return reading{errno: api.ErrLong}
	}
	texts, rest := splitLines(tab)
	count := len(texts)
	if rest != "" {
		count++
	}
	if count > api.MaxLines {
		return reading{errno: api.ErrMany}
	}
	lines := []line{}
	for i := 0; i < len(texts); i++ {
		l, ok := readLine(texts[i])
		if !ok {
			return reading{wrong: i + 1, errno: api.ErrLine}
		}
		lines = append(lines, l)
	}
	if rest != "" {
		return reading{wrong: count, errno: api.ErrLine}
	}
	return reading{lines: lines, errno: api.OK}
}
