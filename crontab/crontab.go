// Package crontab reads crontabs and tells when their lines are due (P4), what
// their options say and which steps they have.
package crontab

import (
	"bellman/api"
	"bellman/calendar"
)

// Reading is what came of reading a crontab: its lines, or an error and the
// number of the line to blame (0: none alone).
type Reading struct {
	Lines []Line
	Wrong int
	Errno api.Errno
}

// Check tells whether a text is a crontab, and if it has a wrong line, the
// first one.
func Check(tab string) (int, api.Errno) {
	r := Read(tab)
	return r.Wrong, r.Errno
}

// Due tells whether a line of a crontab is due at a minute.
func Due(tab string, number int, m int) (bool, api.Errno) {
	r := Read(tab)
	if r.Errno != api.OK {
		return false, r.Errno
	}
	if number < 1 || number > len(r.Lines) {
		return false, api.ErrNumber
	}
	date, errno := calendar.Date(m)
	if errno != api.OK {
		return false, errno
	}
	due := r.Lines[number-1].Due(date)
	return due, api.OK
}

// Read looks at the length and the count of lines first: they come before a
// wrong line, and bound the work on a text of any size.
func Read(tab string) Reading {
	if len(tab) > api.MaxTab {
		return Reading{Errno: api.ErrLong}
	}
	texts, rest := splitLines(tab)
	count := len(texts)
	if rest != "" {
		count++
	}
	if count > api.MaxLines {
		return Reading{Errno: api.ErrMany}
	}
	lines := []Line{}
	for i := 0; i < len(texts); i++ {
		l, ok := readLine(texts[i])
		if !ok {
			return Reading{Wrong: i + 1, Errno: api.ErrLine}
		}
		lines = append(lines, l)
	}
	if rest != "" {
		return Reading{Wrong: count, Errno: api.ErrLine}
	}
	return Reading{Lines: lines, Errno: api.OK}
}
